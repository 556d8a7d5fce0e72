"""[14]: lanes.py."""

import unittest

from bankwalk.errors import BankError, Clash, NoStart
from bankwalk.lanes import handed, lanes_of, net_of
from bankwalk.nets import is_net, led, led_back, net_for
from bankwalk.places import filled
from tests.samples import (
    BITS,
    DEALINGS,
    JOINED,
    NO_PAIRS,
    RESTS,
    SKEW,
    TABLE,
    WALKS,
    banks_said,
    numbered,
    same_kind,
    size_said,
    words_said,
)

MORE_WALKS = [
    ("row", 2),
    ("column", 2),
    ("block", 2, 2),
    ("slant", 2),
    ("cells", ((0, 2), (0, 0), (0, 1))),
    ("cells", ((1, 0), (0, 0), (1, 2))),
]

FEW_BANKS = [dealing for dealing in DEALINGS if size_said(dealing)[2] <= 16]
FEW_BANKS += [("skew", 16, 16, 16, 1, 5), ("rests", 6, 6, 11, 4), ("bits", 2, 3, (1, 2, 4, 8)), ("skew", 3, 3, 9, 3, 1)]


def lanes_said(dealing):
    return min(lanes for lanes in (2, 4, 8, 16) if lanes >= size_said(dealing)[2])


def asked():
    """Of each dealing of at most 16 banks each walk, some of its starts, and the banks of the words from there."""
    for dealing in FEW_BANKS:
        banks = banks_said(dealing)
        for walk in WALKS + MORE_WALKS:
            found = list(words_said(dealing, walk).items())
            for start, words in found[:5] + found[5::23]:
                yield dealing, walk, start, words, [banks[word] for word in words]


def worths_for(dealing):
    """Worths of the words, by their numbers, all of them unlike."""
    rows, columns, _ = size_said(dealing)
    return [1000 - 7 * number for number in range(rows * columns)]


class LanesOfTests(unittest.TestCase):
    def test_written_out(self):
        self.assertEqual(lanes_of(SKEW, ("row", 3), (0, 0)), (0, 2, 4, 1, 3, 5, 6, 7))
        self.assertEqual(lanes_of(SKEW, ("row", 5), (1, 0)), (1, 3, 0, 2, 4, 5, 6, 7))
        self.assertEqual(lanes_of(TABLE, ("row", 2), (0, 1)), (2, 0, 1, 3))
        self.assertIsNone(lanes_of(TABLE, ("row", 2), (1, 0)))
        self.assertIsNone(lanes_of(TABLE, ("row", 3), (0, 0)))
        self.assertEqual(lanes_of(RESTS, ("column", 3), (0, 1)), (1, 2, 0, 3))
        self.assertEqual(lanes_of(BITS, ("row", 2), (0, 0)), (0, 1, 2, 3))
        self.assertEqual(lanes_of(("skew", 1, 1, 1, 0, 0), ("row", 1), (0, 0)), (0, 1))
        self.assertEqual(lanes_of(("skew", 1, 2, 2, 0, 1), ("cells", ((0, 1), (0, 0))), (0, 0)), (1, 0))

    def test_as_many_lanes_as_the_least_that_is_not_below_banks(self):
        for banks in range(1, 17):
            said = [lanes for lanes in (2, 4, 8, 16) if lanes >= banks][0]
            told = lanes_of(("skew", 1, 3, banks, 0, 1), ("row", 1), (0, 2))
            self.assertEqual(len(told), said)
            self.assertEqual(told[0], 2 % banks)
            self.assertEqual(list(told[1:]), [lane for lane in range(said) if lane != 2 % banks])

    def test_against_the_document(self):
        sorts = set()
        for dealing, walk, start, _, banks in asked():
            lanes = lanes_said(dealing)
            said = tuple(banks) + tuple(lane for lane in range(lanes) if lane not in banks)
            said = said if len(set(banks)) == len(banks) else None
            sorts.add((dealing[0], lanes, said is None))
            with self.subTest(dealing=dealing, walk=walk, start=start):
                self.assertTrue(same_kind(lanes_of(dealing, walk, start), said))
        self.assertEqual(len({(kind, clashes) for kind, _, clashes in sorts}), 10)
        self.assertEqual(len({(lanes, clashes) for _, lanes, clashes in sorts}), 8)

    def test_orders_of_all_lanes(self):
        for dealing, walk, start, _, _ in asked():
            told = lanes_of(dealing, walk, start)
            if told is not None:
                self.assertEqual(sorted(told), list(range(lanes_said(dealing))))
                self.assertIs(is_net(net_for(told), len(told)), True)


class NetOfTests(unittest.TestCase):
    def test_leads_each_word_to_its_bank_and_back(self):
        clear = 0
        for dealing, walk, start, words, banks in asked():
            net = net_of(dealing, walk, start)
            with self.subTest(dealing=dealing, walk=walk, start=start):
                self.assertEqual(net is None, len(set(banks)) < len(banks))
                if net is None:
                    continue
                lanes = lanes_said(dealing)
                self.assertIs(is_net(net, lanes), True)
                things = words + [f"left {k}" for k in range(lanes - len(words))]
                out = led(net, things)
                self.assertEqual([out[bank] for bank in banks], words)
                self.assertEqual([thing for thing in out if thing not in words], things[len(words) :])
                self.assertEqual(led_back(net, out), things)
                self.assertEqual(out, led(net_for(lanes_of(dealing, walk, start)), things))
                clear += 1
        self.assertGreater(clear, 300)

    def test_of_two_lanes(self):
        dealing = ("skew", 1, 3, 2, 0, 1)
        self.assertEqual(net_of(dealing, ("row", 2), (0, 0)), 0)
        self.assertEqual(net_of(dealing, ("row", 2), (0, 1)), 1)
        self.assertIsNone(net_of(dealing, ("row", 3), (0, 0)))


class HandedTests(unittest.TestCase):
    def test_written_out(self):
        memory = filled(SKEW, list(range(100, 120)))
        self.assertEqual(handed(SKEW, ("row", 3), (1, 1), memory), [106, 107, 108])
        self.assertEqual(handed(SKEW, ("column", 4), (0, 4), memory), [104, 109, 114, 119])
        self.assertEqual(handed(SKEW, ("cells", ((0, 1), (0, 0))), (2, 2), memory), [113, 112])
        self.assertEqual(handed(TABLE, ("row", 2), (0, 1), [[1, 3], [4, 5], [2, 6]]), [2, 3])

    def test_beside_the_worths_of_the_words(self):
        for dealing, walk, start, words, banks in asked():
            worths = worths_for(dealing)
            memory = filled(dealing, worths)
            rows, columns, _ = size_said(dealing)
            numbers = {word: number for number, word in numbered(rows, columns).items()}
            with self.subTest(dealing=dealing, walk=walk, start=start):
                if len(set(banks)) < len(banks):
                    with self.assertRaises(Clash):
                        handed(dealing, walk, start, memory)
                else:
                    said = [worths[numbers[word]] for word in words]
                    self.assertTrue(same_kind(handed(dealing, walk, start, memory), said))

    def test_places_of_rests_that_hold_nothing(self):
        dealing = ("rests", 2, 3, 3, 7)
        memory = filled(dealing, [10, 11, 12, 13, 14, 15])
        self.assertTrue(any(None in shelf for shelf in memory))
        self.assertEqual(handed(dealing, ("row", 3), (1, 0), memory), [13, 14, 15])

    def test_a_memory_that_was_changed_is_read_as_it_is(self):
        memory = filled(TABLE, [1, 2, 3, 4, 5, 6])
        memory[2][0] = 77
        self.assertEqual(handed(TABLE, ("row", 2), (0, 1), memory), [77, 3])


class RefusedTests(unittest.TestCase):
    def no_start(self, dealing, walk, start):
        with self.subTest(dealing=dealing, walk=walk, start=start):
            for ask, more in ((lanes_of, ()), (net_of, ()), (handed, (filled(dealing, worths_for(dealing)),))):
                with self.assertRaises(NoStart) as caught:
                    ask(dealing, walk, start, *more)
                self.assertEqual(type(caught.exception).__bases__, (BankError,))

    def test_no_start(self):
        for dealing in FEW_BANKS:
            rows, columns, _ = size_said(dealing)
            for start in [(-1, 0), (0, -1), (rows, 0), (0, columns), (0, columns - 1), (10**20, 0), *NO_PAIRS]:
                self.no_start(dealing, ("row", 2), start)
            self.no_start(dealing, ("column", 40), (0, 0))

    def test_no_start_goes_first(self):
        # From every start these walks clash, so the refusal tells which of both was looked at first.
        for dealing, walk in ((TABLE, ("row", 3)), (JOINED, ("block", 6, 6)), (SKEW, ("block", 2, 3))):
            for start in [(-1, 0), (0, -1), (0, 1000), (1000, 0), (None, 0), [0, 0], (True, 0)]:
                self.no_start(dealing, walk, start)

    def test_a_start_that_is_no_word(self):
        walk = ("cells", ((-2, 3), (-2, 4)))
        self.assertEqual(lanes_of(TABLE, walk, (2, -3)), (0, 2, 1, 3))
        self.assertEqual(handed(TABLE, walk, (2, -3), filled(TABLE, [1, 2, 3, 4, 5, 6])), [1, 2])
        self.no_start(TABLE, walk, (0, 0))

    def test_clash_of_handed(self):
        memory = filled(TABLE, [1, 2, 3, 4, 5, 6])
        with self.assertRaises(Clash) as caught:
            handed(TABLE, ("row", 2), (1, 0), memory)
        self.assertEqual(type(caught.exception).__bases__, (BankError,))
        self.assertEqual(handed(TABLE, ("row", 2), (1, 1), memory), [5, 6])


class BeyondTests(unittest.TestCase):
    def test_nothing_is_refused_for_more_banks(self):
        dealing = ("skew", 16, 16, 32, 3, 1)
        walk, memory = ("row", 16), filled(dealing, list(range(256)))
        self.assertEqual(sorted(lanes_of(dealing, walk, (5, 0))), list(range(32)))
        self.assertEqual(led(net_of(dealing, walk, (5, 0)), list(range(32)))[15], 0)
        self.assertEqual(handed(dealing, walk, (5, 0), memory), list(range(80, 96)))


if __name__ == "__main__":
    unittest.main()

"""[15]: player.py."""

import unittest

from bankwalk.clashes import loads
from bankwalk.errors import BankError, NoAsk, NoStart
from bankwalk.player import play, steady, waits_of
from bankwalk.walks import starts, words_of
from tests.samples import (
    DEALINGS,
    NO_PAIRS,
    SKEW,
    TABLE,
    WALKS,
    banks_said,
    same_kind,
    size_said,
    words_said,
)

# Banks of one row of words: 0 0 1 2.
FOUR = ("table", 3, ((0, 0, 1, 2),))
A, B, C, D = (0, 0), (0, 1), (0, 2), (0, 3)

HOLDS = [1, 2, 3, 8]


def played(dealing, asked, hold):
    """A plain clock: in each beat all that was begun so far is looked through."""
    banks = banks_said(dealing)
    beat, waits, log = 0, 0, []
    for row, words in enumerate(asked):
        due = list(enumerate(words))
        while True:
            for at, word in list(due):
                last = [begun for begun, _, other in log if banks[other] == banks[word]]
                if all(beat - begun > hold - 1 for begun in last):
                    log.append((beat, row, word))
                    due.remove((at, word))
            beat += 1
            if not due:
                break
            waits += 1
    return (beat, waits, log)


def sheets(dealing):
    """Rows of words to be asked for, of all sorts."""
    words = list(banks_said(dealing))
    many = len(words)
    picked = [words[(5 * k + k * k // 3) % many] for k in range(30)]
    return [
        [],
        [[]],
        [[], [], []],
        [[words[0]]],
        [[words[0]] * 5],
        [[words[0]], [words[0]], [words[-1]]],
        [[], [words[0]], [], [], [words[0], words[-1]], []],
        [words[:16]],
        [words[-16:][::-1], words[:7]],
        [picked[:9], [], picked[9:11], picked[11:20], picked[3:4] * 3, picked[20:]],
        [[word] for word in words[:40]],
    ]


class PlayTests(unittest.TestCase):
    def test_written_out_at_hold_1(self):
        self.assertEqual(play(FOUR, [[A]], 1), (1, 0, [(0, 0, A)]))
        self.assertEqual(play(FOUR, [[A, C, D]], 1), (1, 0, [(0, 0, A), (0, 0, C), (0, 0, D)]))
        self.assertEqual(play(FOUR, [[A, B]], 1), (2, 1, [(0, 0, A), (1, 0, B)]))
        self.assertEqual(play(FOUR, [[A, B], [B]], 1), (3, 1, [(0, 0, A), (1, 0, B), (2, 1, B)]))
        self.assertEqual(play(FOUR, [[A, B, C]], 1), (2, 1, [(0, 0, A), (0, 0, C), (1, 0, B)]))

    def test_written_out_with_more_hold(self):
        self.assertEqual(play(FOUR, [[A, B]], 2), (3, 2, [(0, 0, A), (2, 0, B)]))
        self.assertEqual(play(FOUR, [[A, B]], 3), (4, 3, [(0, 0, A), (3, 0, B)]))
        self.assertEqual(play(FOUR, [[A], [C], [B]], 2), (3, 0, [(0, 0, A), (1, 1, C), (2, 2, B)]))
        self.assertEqual(play(FOUR, [[A], [C], [B]], 3), (4, 1, [(0, 0, A), (1, 1, C), (3, 2, B)]))
        self.assertEqual(play(FOUR, [[A], [B, D]], 2), (3, 1, [(0, 0, A), (1, 1, D), (2, 1, B)]))

    def test_empty_rows(self):
        self.assertEqual(play(FOUR, [], 1), (0, 0, []))
        self.assertEqual(play(FOUR, [[]], 1), (1, 0, []))
        self.assertEqual(play(FOUR, [[], []], 8), (2, 0, []))
        self.assertEqual(play(FOUR, [[A], [], [A]], 2), (3, 0, [(0, 0, A), (2, 2, A)]))
        self.assertEqual(play(FOUR, [[A], [], [A]], 3), (4, 1, [(0, 0, A), (3, 2, A)]))
        self.assertEqual(play(FOUR, [[A, A], []], 4), (6, 4, [(0, 0, A), (4, 0, A)]))

    def test_words_asked_for_several_times(self):
        self.assertEqual(play(FOUR, [[C, C, C]], 1), (3, 2, [(0, 0, C), (1, 0, C), (2, 0, C)]))
        self.assertEqual(play(FOUR, [[C, A, C, B]], 2), (3, 2, [(0, 0, C), (0, 0, A), (2, 0, C), (2, 0, B)]))

    def test_beside_a_plain_clock(self):
        for dealing in DEALINGS:
            for asked in sheets(dealing):
                for hold in HOLDS:
                    with self.subTest(dealing=dealing, asked=asked, hold=hold):
                        self.assertTrue(same_kind(play(dealing, asked, hold), played(dealing, asked, hold)))

    def test_beats_waits_and_the_log_hang_together(self):
        for dealing in DEALINGS[:6]:
            for asked in sheets(dealing):
                beats, waits, log = play(dealing, asked, 2)
                self.assertEqual(beats, waits + len(asked))
                self.assertEqual([beat for beat, _, _ in log], sorted(beat for beat, _, _ in log))
                self.assertEqual([row for _, row, _ in log], sorted(row for _, row, _ in log))
                for row, words in enumerate(asked):
                    self.assertEqual(sorted(word for _, at, word in log if at == row), sorted(words))

    def test_forty_rows_of_sixteen(self):
        dealing = ("skew", 16, 16, 32, 1, 2)
        rows = [[(i % 16, (j * (i + 1)) % 16) for j in range(16)] for i in range(40)]
        for hold in (1, 8):
            self.assertEqual(play(dealing, rows, hold), played(dealing, rows, hold))


class NoAskTests(unittest.TestCase):
    def refused(self, dealing, asked, row, at):
        with self.subTest(dealing=dealing, asked=asked), self.assertRaises(NoAsk) as caught:
            play(dealing, asked, 1)
        self.assertEqual((caught.exception.row, caught.exception.at), (row, at))
        self.assertEqual(type(caught.exception).__bases__, (BankError,))

    def test_at_the_first_thing_that_is_no_word(self):
        self.refused(FOUR, [[(0, 4)]], 0, 0)
        self.refused(FOUR, [[A, B, (1, 0)]], 0, 2)
        self.refused(FOUR, [[A], [], [B, (0, -1), (9, 9)], [(9, 9)]], 2, 1)
        self.refused(FOUR, [[A, B, C], [(-1, 0)], [None]], 1, 0)

    def test_rows_go_ahead_of_places(self):
        self.refused(FOUR, [[A, B, C, None], [None]], 0, 3)

    def test_beyond_the_table(self):
        for dealing in DEALINGS:
            rows, columns, _ = size_said(dealing)
            for word in [(rows, 0), (0, columns), (-1, 0), (0, -1), (rows - 1, columns), (10**20, 0)]:
                self.refused(dealing, [[(0, 0)], [(0, 0), word]], 1, 1)
            self.assertEqual(play(dealing, [[(rows - 1, columns - 1)]], 1)[0], 1)

    def test_what_is_no_pair_of_numbers(self):
        for thing in NO_PAIRS:
            self.refused(TABLE, [[], [(1, 1), (1, 2), thing, (0, 0)]], 1, 2)

    def test_at_any_hold(self):
        for hold in HOLDS:
            with self.assertRaises(NoAsk):
                play(FOUR, [[A], [(0, 9)]], hold)


class WaitsOfTests(unittest.TestCase):
    def test_written_out(self):
        self.assertEqual(waits_of(SKEW, ("row", 5), (0, 0)), 0)
        self.assertEqual(waits_of(SKEW, ("block", 2, 3), (0, 0)), 1)
        self.assertEqual(waits_of(FOUR, ("row", 4), (0, 0)), 1)
        self.assertEqual(waits_of(FOUR, ("row", 1), (0, 0)), 0)
        self.assertEqual(waits_of(("skew", 4, 4, 3, 0, 0), ("block", 4, 4), (0, 0)), 15)

    def test_beside_loads_and_play(self):
        told = set()
        for dealing in DEALINGS:
            for walk in WALKS:
                for start, words in list(words_said(dealing, walk).items())[:6]:
                    with self.subTest(dealing=dealing, walk=walk, start=start):
                        waits = waits_of(dealing, walk, start)
                        self.assertEqual(waits, max(loads(dealing, walk, start)) - 1)
                        self.assertEqual(waits, play(dealing, [words], 1)[1])
                        self.assertEqual(waits, played(dealing, [words], 1)[1])
                        told.add(waits)
        self.assertGreater(len(told), 3)

    def test_refused_of_no_start(self):
        for dealing in DEALINGS:
            rows, columns, _ = size_said(dealing)
            for start in [(-1, 0), (0, -1), (rows, 0), (0, columns - 1), *NO_PAIRS]:
                with self.subTest(dealing=dealing, start=start), self.assertRaises(NoStart):
                    waits_of(dealing, ("row", 2), start)


class SteadyTests(unittest.TestCase):
    def test_written_out(self):
        self.assertEqual(steady(FOUR, ("row", 2), [(0, 0)], 1), (2, 1))
        self.assertEqual(steady(FOUR, ("row", 2), [(0, 0), (0, 1), (0, 2)], 1), (4, 1))
        self.assertEqual(steady(FOUR, ("row", 2), [(0, 2), (0, 2)], 3), (4, 2))
        self.assertEqual(steady(FOUR, ("row", 2), [], 3), (0, 0))

    def test_beside_play(self):
        for dealing in DEALINGS:
            for walk in WALKS:
                some = starts(dealing, walk)
                for picked in ([], some[:1], some[:7], some[-3:][::-1] + some[:1], some[:1] * 4):
                    for hold in HOLDS:
                        rows = [words_of(dealing, walk, start) for start in picked]
                        with self.subTest(dealing=dealing, walk=walk, some=picked, hold=hold):
                            told = steady(dealing, walk, picked, hold)
                            self.assertTrue(same_kind(told, play(dealing, rows, hold)[:2]))
                            if len(rows) < 5:
                                self.assertEqual(told, played(dealing, rows, hold)[:2])

    def test_starts_that_are_no_words(self):
        self.assertEqual(steady(FOUR, ("cells", ((-1, 1), (-1, 2))), [(1, -1), (1, 0)], 1), (3, 1))

    def test_refused_of_no_start(self):
        for start in [(0, 3), (1, 0), (-1, 0), (0, -1), *NO_PAIRS]:
            for some in ([start], [(0, 0), start], [start, (0, 0)]):
                with self.subTest(some), self.assertRaises(NoStart) as caught:
                    steady(FOUR, ("row", 2), some, 1)
                self.assertEqual(type(caught.exception).__bases__, (BankError,))


if __name__ == "__main__":
    unittest.main()

"""[13]: nets.py."""

import itertools
import random
import unittest

from bankwalk.errors import BankError, NoOrder
from bankwalk.nets import is_net, led, led_back, net_for
from tests.samples import NO_NUMBERS, NO_TUPLES_OF_WORDS, changed, nested, put

LANES = [2, 4, 8, 16]


def net_of_bits(bits, lanes):
    """The net whose switches are taken from the row of bits, one by one."""
    if lanes == 2:
        return next(bits)
    first = tuple(next(bits) for _ in range(lanes // 2))
    upper, lower = net_of_bits(bits, lanes // 2), net_of_bits(bits, lanes // 2)
    return (first, upper, lower, tuple(next(bits) for _ in range(lanes // 2)))


def switch_count(lanes):
    return 1 if lanes == 2 else lanes + 2 * switch_count(lanes // 2)


def nets(lanes, many):
    """Nets of so many lanes: all of 2 and 4, the straight one, the crossed one and many others of more."""
    count = switch_count(lanes)
    if count <= 6:
        rows = list(itertools.product((0, 1), repeat=count))
    else:
        chance = random.Random(lanes)
        rows = [[0] * count, [1] * count] + [[chance.randrange(2) for _ in range(count)] for _ in range(many)]
    return [net_of_bits(iter(row), lanes) for row in rows]


def lane_said(net, lanes, k):
    """The lane at which thing k comes out, by the document's sentences."""
    if lanes == 2:
        return k if net == 0 else 1 - k
    first, upper, lower, last = net
    t = k // 2
    in_upper = (k == 2 * t) == (first[t] == 0)
    at = lane_said(upper if in_upper else lower, lanes // 2, t)
    return 2 * at if in_upper == (last[at] == 0) else 2 * at + 1


def orders(lanes):
    """Orders of so many lanes: all of 2 and 4, many of more."""
    if lanes <= 4:
        return list(itertools.permutations(range(lanes)))
    chance = random.Random(lanes)
    told = [tuple(range(lanes)), tuple(reversed(range(lanes)))]
    told += [tuple((k * odd + more) % lanes for k in range(lanes)) for odd in (3, 5, 7) for more in range(lanes)]
    told += [tuple(k ^ more for k in range(lanes)) for more in range(lanes)]
    return told + [tuple(chance.sample(range(lanes), lanes)) for _ in range(600)]


class IsNetTests(unittest.TestCase):
    def yes(self, thing, lanes):
        with self.subTest(thing=thing, lanes=lanes):
            self.assertIs(is_net(thing, lanes), True)

    def no(self, thing, lanes):
        with self.subTest(thing=thing, lanes=lanes):
            self.assertIs(is_net(thing, lanes), False)

    def test_nets(self):
        self.assertEqual([switch_count(lanes) for lanes in LANES], [1, 6, 20, 56])
        for lanes in LANES:
            for net in nets(lanes, 50):
                self.yes(net, lanes)

    def test_of_other_lanes(self):
        for lanes in LANES:
            for net in nets(lanes, 5):
                for other in LANES:
                    if other != lanes:
                        self.no(net, other)

    def test_changed_at_one_place(self):
        for lanes in LANES:
            for net in nets(lanes, 1)[:2]:
                for thing in changed(net):
                    self.no(thing, lanes)

    def test_switches_are_numbers_0_or_1(self):
        net = ((0, 1), 1, 0, (1, 0))
        for wrong in [2, -1, 10**20, *NO_NUMBERS]:
            self.no(wrong, 2)
            for at in range(4):
                self.no(put(net, at, wrong), 4)
            for at in (0, 3):
                for t in range(2):
                    self.no(put(net, at, put(net[at], t, wrong)), 4)

    def test_halves_of_the_wrong_size(self):
        small, right = ((0, 1), 1, 0, (1, 0)), ((0, 0, 0, 0), ((0, 0), 0, 0, (0, 0)), ((0, 0), 0, 0, (0, 0)), (0,) * 4)
        self.yes(right, 8)
        for at in (1, 2):
            for wrong in (0, 1, right, (0, 0), ((0, 0), (0, 0)), ((0,), 0, 0, (0,)), list(small)):
                self.no(put(right, at, wrong), 8)
            self.yes(put(right, at, small), 8)
        for at in (0, 3):
            for wrong in ((0, 0), (0, 0, 0), (0,) * 5, (0,) * 8, [0, 0, 0, 0], "0000", ()):
                self.no(put(right, at, wrong), 8)

    def test_anything_else_to_twenty_deep(self):
        deep = [thing for depth in range(1, 21) for thing in nested(depth)]
        for lanes in LANES:
            for thing in NO_TUPLES_OF_WORDS + deep:
                # 0 and 1 are nets of 2 lanes.
                if lanes > 2 or thing not in (0, 1) or isinstance(thing, bool):
                    self.no(thing, lanes)
        net = ((0, 1), 1, 0, (1, 0))
        for depth in range(1, 20):
            for thing in nested(depth):
                for at in range(4):
                    self.no(put(net, at, thing), 4)

    def test_nets_within_nets_without_end(self):
        thing = 0
        for _ in range(9):
            thing = ((0, 0), thing, thing, (0, 0))
            self.no(thing, 8)
            self.no(thing, 16)


class LedTests(unittest.TestCase):
    def test_written_out(self):
        self.assertEqual(led(0, ["a", "b"]), ["a", "b"])
        self.assertEqual(led(1, ["a", "b"]), ["b", "a"])
        things = ["a", "b", "c", "d"]
        self.assertEqual(led(((0, 0), 0, 0, (0, 0)), things), ["a", "b", "c", "d"])
        self.assertEqual(led(((1, 0), 0, 0, (0, 0)), things), ["b", "a", "c", "d"])
        self.assertEqual(led(((0, 0), 1, 0, (0, 0)), things), ["c", "b", "a", "d"])
        self.assertEqual(led(((0, 0), 0, 1, (0, 0)), things), ["a", "d", "c", "b"])
        self.assertEqual(led(((0, 0), 0, 0, (0, 1)), things), ["a", "b", "d", "c"])
        self.assertEqual(led(((0, 1), 1, 0, (1, 0)), things), ["b", "d", "a", "c"])

    def test_back_written_out(self):
        things = ["a", "b", "c", "d"]
        self.assertEqual(led_back(1, ["a", "b"]), ["b", "a"])
        self.assertEqual(led_back(((0, 1), 1, 0, (1, 0)), ["b", "d", "a", "c"]), things)
        self.assertEqual(led_back(((1, 0), 1, 0, (0, 0)), things), ["b", "c", "a", "d"])

    def test_against_the_document(self):
        for lanes in LANES:
            for net in nets(lanes, 200):
                said = [None] * lanes
                for k in range(lanes):
                    said[lane_said(net, lanes, k)] = k
                with self.subTest(net):
                    self.assertEqual(led(net, list(range(lanes))), said)
                    self.assertEqual(led_back(net, said), list(range(lanes)))

    def test_each_undoes_the_other(self):
        for lanes in LANES:
            things = [f"thing {k}" for k in range(lanes)]
            for net in nets(lanes, 200):
                with self.subTest(net):
                    self.assertEqual(led_back(net, led(net, things)), things)
                    self.assertEqual(led(net, led_back(net, things)), things)

    def test_some_net_is_not_its_own_way_back(self):
        for lanes in LANES[1:]:
            things = list(range(lanes))
            self.assertTrue([net for net in nets(lanes, 9) if led(net, things) != led_back(net, things)])

    def test_things_come_out_as_they_are(self):
        things = [None, True, False, 0, 1, "", "0", (), [], [[]], {}, {1}, 1.5, object(), led, ValueError("x")]
        for lanes in LANES:
            for net in nets(lanes, 20)[:40]:
                handed = things[-lanes:]
                told, back = led(net, handed), led_back(net, handed)
                for k in range(lanes):
                    self.assertIs(told[lane_said(net, lanes, k)], handed[k])
                    self.assertIs(back[k], handed[lane_said(net, lanes, k)])

    def test_alike_things(self):
        for lanes in LANES:
            for net in nets(lanes, 3):
                self.assertEqual(led(net, [None] * lanes), [None] * lanes)
                self.assertEqual(led_back(net, [None] * lanes), [None] * lanes)

    def test_told_lists_are_new(self):
        for lanes in LANES:
            handed = list(range(lanes))
            net = net_for(tuple(handed))
            for ask in (led, led_back):
                told = ask(net, handed)
                self.assertIs(type(told), list)
                told.append(5)
                told[0] = "spoilt"
                self.assertEqual(handed, list(range(lanes)))
                self.assertEqual(ask(net, handed), handed)


class NetForTests(unittest.TestCase):
    def test_orders(self):
        for lanes in LANES:
            for order in orders(lanes):
                net = net_for(order)
                with self.subTest(order):
                    self.assertIs(is_net(net, lanes), True)
                    self.assertEqual([lane_said(net, lanes, k) for k in range(lanes)], list(order))
                    told = led(net, list(range(lanes)))
                    self.assertEqual([told[lane] for lane in order], list(range(lanes)))
                    self.assertEqual(led_back(net, list(range(lanes))), list(order))

    def test_the_same_again(self):
        for lanes in LANES:
            for order in orders(lanes)[:50]:
                self.assertEqual(net_for(order), net_for(tuple(list(order))))

    def refused(self, thing):
        with self.subTest(thing), self.assertRaises(NoOrder) as caught:
            net_for(thing)
        self.assertEqual(type(caught.exception).__bases__, (BankError,))

    def test_refused_of_other_lengths(self):
        for lanes in range(33):
            if lanes not in LANES:
                self.refused(tuple(range(lanes)))

    def test_refused_of_lists(self):
        for lanes in LANES:
            self.refused(list(range(lanes)))
            self.refused([tuple(range(lanes))])
            self.refused((tuple(range(lanes)),))

    def test_refused_of_numbers_twice_too_great_or_below_0(self):
        for lanes in LANES:
            order = tuple(range(lanes))
            for at in range(lanes):
                for wrong in [(at + 1) % lanes, (at - 1) % lanes, lanes, lanes + at, -1, at - lanes, 10**20]:
                    self.refused(put(order, at, wrong))
            self.refused(tuple(range(1, lanes + 1)))
            self.refused(tuple(range(-1, lanes - 1)))
            self.refused((0,) * lanes)

    def test_refused_of_what_is_no_number(self):
        self.refused((False, True))
        self.refused((True, False))
        self.refused((0, True))
        self.refused((False, 1))
        for lanes in LANES:
            order = tuple(range(lanes))
            self.refused(put(order, 0, False))
            self.refused(put(order, 1, True))
            for wrong in NO_NUMBERS:
                for at in range(lanes):
                    self.refused(put(order, at, wrong))

    def test_refused_of_anything_else(self):
        for thing in [*NO_TUPLES_OF_WORDS, "01", "0123", ("0", "1"), (0.0, 1.0), {0: 1, 1: 0}]:
            self.refused(thing)


if __name__ == "__main__":
    unittest.main()

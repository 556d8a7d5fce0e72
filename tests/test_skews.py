"""[9]: skews.py."""

import unittest

from bankwalk.clashes import clash
from bankwalk.skews import least_skew, shows_no_skew, skew_for
from tests.samples import NO_NUMBERS, NO_TUPLES_OF_WORDS, WALKS, alike_said, cells_said, changed, same_kind

ASKED = [
    [],
    [("row", 1)],
    [("row", 4)],
    [("column", 3)],
    [("row", 3), ("column", 3)],
    [("row", 2), ("column", 2), ("slant", 2), ("back", 2)],
    [("row", 4), ("column", 4), ("slant", 4), ("back", 4)],
    [("row", 5), ("column", 5), ("slant", 5), ("back", 5), ("block", 2, 2)],
    [("block", 2, 2)],
    [("block", 2, 3), ("block", 3, 2)],
    [("block", 2, 3), ("row", 5), ("step", 2, -1, 3)],
    [("cells", ((0, 0), (2, 0), (0, 2)))],
    [("cells", ((5, 5),)), ("cells", ((-1, 0), (1, 0), (0, -1), (0, 1), (0, 0)))],
    [("step", 0, 4, 4), ("step", 6, 0, 3)],
    [("row", 3), ("row", 3)],
    [("row", 7), ("column", 16)],
]


def rests_said(banks, pair, walk):
    return [(pair[0] * p + pair[1] * q) % banks for p, q in cells_said(walk)]


def bars_said(banks, walks, pair):
    """All tuples (n, k, l) for this pair, the first walks ahead."""
    return [(n, k, l) for n, walk in enumerate(walks) for k, l in alike_said(rests_said(banks, pair, walk))]


def pairs(banks):
    return [(a, b) for a in range(banks) for b in range(banks)]


def skew_said(banks, walks):
    """What skew_for tells, by the document."""
    told = [bars_said(banks, walks, pair) for pair in pairs(banks)]
    if [] in told:
        return ("skew",) + pairs(banks)[told.index([])]
    return ("none", [bars[0] for bars in told])


class SkewForTests(unittest.TestCase):
    def test_written_out(self):
        self.assertEqual(skew_for(1, []), ("skew", 0, 0))
        self.assertEqual(skew_for(7, []), ("skew", 0, 0))
        self.assertEqual(skew_for(7, [("row", 1), ("cells", ((3, 3),))]), ("skew", 0, 0))
        self.assertEqual(skew_for(3, [("row", 3)]), ("skew", 0, 1))
        self.assertEqual(skew_for(3, [("column", 3)]), ("skew", 1, 0))
        self.assertEqual(skew_for(5, [("row", 5), ("column", 5), ("slant", 5), ("back", 5)]), ("skew", 1, 2))
        self.assertEqual(skew_for(1, [("row", 1), ("row", 2)]), ("none", [(1, 0, 1)]))
        self.assertEqual(skew_for(2, [("row", 3)]), ("none", [(0, 0, 1), (0, 0, 2), (0, 0, 1), (0, 0, 2)]))
        walks = [("row", 2), ("column", 2), ("slant", 2)]
        self.assertEqual(skew_for(2, walks), ("none", [(0, 0, 1), (1, 0, 1), (0, 0, 1), (2, 0, 1)]))

    def test_least_k_then_l(self):
        walks = [("cells", ((0, 0), (0, 1), (0, 3), (0, 2)))]
        self.assertEqual(skew_for(2, walks), ("none", [(0, 0, 1), (0, 0, 3), (0, 0, 1), (0, 0, 3)]))
        walks = [("cells", ((0, 0), (0, 1), (0, 3)))]
        self.assertEqual(skew_for(2, walks)[1][1], (0, 1, 2))

    def test_against_the_document(self):
        told = set()
        for walks in ASKED + [[walk] for walk in WALKS]:
            for banks in list(range(1, 10)) + [12]:
                with self.subTest(banks=banks, walks=walks):
                    self.assertTrue(same_kind(skew_for(banks, walks), skew_said(banks, walks)))
                told.add(skew_for(banks, walks)[0])
        self.assertEqual(told, {"skew", "none"})

    def test_many_banks(self):
        walks = [("row", 16), ("column", 16), ("slant", 16), ("back", 16), ("block", 4, 4)]
        for banks in (16, 17, 31, 32):
            self.assertTrue(same_kind(skew_for(banks, walks), skew_said(banks, walks)))

    def test_what_is_found_is_clear(self):
        for walks in ASKED:
            for banks in range(1, 18):
                told = skew_for(banks, walks)
                if told[0] == "skew":
                    dealing = ("skew", 16, 16, banks, told[1], told[2])
                    self.assertEqual([clash(dealing, walk) for walk in walks], [None] * len(walks))


class ShowsNoSkewTests(unittest.TestCase):
    def no(self, banks, walks, thing):
        with self.subTest(banks=banks, walks=walks, thing=thing):
            self.assertIs(shows_no_skew(banks, walks, thing), False)

    def test_what_skew_for_tells(self):
        for walks in ASKED:
            for banks in range(1, 9):
                told = skew_for(banks, walks)
                if told[0] == "none":
                    self.assertIs(shows_no_skew(banks, walks, told[1]), True)

    def test_bars_that_are_not_the_first(self):
        for walks in ASKED:
            for banks in (1, 2, 3, 4):
                bars = [bars_said(banks, walks, pair) for pair in pairs(banks)]
                if [] not in bars:
                    self.assertIs(shows_no_skew(banks, walks, [some[-1] for some in bars]), True)
                    self.assertIs(shows_no_skew(banks, walks, [some[len(some) // 2] for some in bars]), True)

    def test_each_bar(self):
        walks = [("row", 3), ("cells", ((0, 0), (1, 0), (0, 1), (1, 1)))]
        told = skew_for(2, walks)[1]
        for at, pair in enumerate(pairs(2)):
            right = bars_said(2, walks, pair)
            for n in range(-1, 3):
                for k in range(-1, 5):
                    for l in range(-1, 5):
                        thing = told[:at] + [(n, k, l)] + told[at + 1 :]
                        self.assertIs(shows_no_skew(2, walks, thing), (n, k, l) in right)

    def test_too_few_and_too_many(self):
        walks = [("row", 3)]
        told = skew_for(2, walks)[1]
        self.no(2, walks, told[:-1])
        self.no(2, walks, told[1:])
        self.no(2, walks, told + [told[-1]])
        self.no(2, walks, [])
        self.no(1, walks, told)
        self.no(3, walks, told)

    def test_no_walks(self):
        self.no(1, [], [])
        self.no(1, [], [(0, 0, 1)])
        self.no(2, [], [(0, 0, 1)] * 4)

    def test_where_there_is_a_skew(self):
        walks = [("row", 2)]
        for k in range(2):
            for l in range(2):
                self.no(2, walks, [(0, 0, 1), (0, k, l), (0, 0, 1), (0, k, l)])

    def test_no_numbers(self):
        walks = [("row", 2), ("row", 2)]
        for thing in NO_NUMBERS:
            self.no(1, walks, [(thing, 0, 1)])
            self.no(1, walks, [(0, thing, 1)])
            self.no(1, walks, [(0, 0, thing)])
        self.assertIs(shows_no_skew(1, walks, [(0, 0, 1)]), True)
        self.assertIs(shows_no_skew(1, walks, [(1, 0, 1)]), True)

    def test_things_that_are_no_bars(self):
        walks = [("row", 2), ("column", 2), ("slant", 2)]
        told = skew_for(2, walks)[1]
        for thing in changed(told) + NO_TUPLES_OF_WORDS + [("none", told), [tuple(told)]]:
            self.no(2, walks, thing)


class LeastSkewTests(unittest.TestCase):
    def said(self, walks, most):
        bars = []
        for banks in range(1, most + 1):
            told = skew_said(banks, walks)
            if told[0] == "skew":
                return (banks, told[1], told[2], bars)
            bars.append(told[1])
        return None

    def test_written_out(self):
        self.assertEqual(least_skew([], 1), (1, 0, 0, []))
        self.assertEqual(least_skew([("row", 1)], 16), (1, 0, 0, []))
        self.assertEqual(least_skew([("row", 2)], 5), (2, 0, 1, [[(0, 0, 1)]]))
        walks = [("row", 2), ("column", 2), ("slant", 2)]
        self.assertEqual(
            least_skew(walks, 3), (3, 1, 1, [[(0, 0, 1)], [(0, 0, 1), (1, 0, 1), (0, 0, 1), (2, 0, 1)]])
        )

    def test_none_up_to_most(self):
        self.assertIsNone(least_skew([], 0))
        self.assertIsNone(least_skew([("row", 2)], 0))
        self.assertIsNone(least_skew([("row", 2)], 1))
        self.assertIsNone(least_skew([("row", 2), ("column", 2), ("slant", 2)], 2))
        self.assertIsNone(least_skew([("row", 5)], 4))
        self.assertEqual(least_skew([("row", 5)], 5)[:3], (5, 0, 1))
        self.assertEqual(least_skew([("row", 5)], 16)[:3], (5, 0, 1))

    def test_against_the_document(self):
        for walks in ASKED:
            for most in (0, 1, 2, 3, 5, 9, 16):
                with self.subTest(walks=walks, most=most):
                    self.assertTrue(same_kind(least_skew(walks, most), self.said(walks, most)))

    def test_its_bars_show_that_there_is_none(self):
        for walks in ASKED:
            told = least_skew(walks, 16)
            if told is not None:
                self.assertEqual(len(told[3]), told[0] - 1)
                for banks, bars in enumerate(told[3], start=1):
                    self.assertIs(shows_no_skew(banks, walks, bars), True)


if __name__ == "__main__":
    unittest.main()

"""[5]: walks.py."""

import unittest

from bankwalk.errors import NoStart
from bankwalk.walks import cells_of, is_walk, starts, words_of
from tests.samples import (
    DEALINGS,
    NO_NUMBERS,
    NO_PAIRS,
    NO_TUPLES_OF_WORDS,
    SKEW,
    TABLE,
    WALKS,
    put,
    same_kind,
    size_said,
)

LINES = ["row", "column", "slant", "back"]
KINDS = [(word, 3) for word in LINES] + [("block", 2, 3), ("step", 1, -2, 3), ("cells", ((0, 0), (1, -1)))]


class IsWalkTests(unittest.TestCase):
    def yes(self, thing):
        with self.subTest(thing):
            self.assertIs(is_walk(thing), True)

    def no(self, thing):
        with self.subTest(thing):
            self.assertIs(is_walk(thing), False)

    def test_true_of_each_kind(self):
        for walk in KINDS + WALKS:
            self.yes(walk)

    def test_true_of_great_numbers(self):
        great = 10**40
        for word in LINES:
            self.yes((word, great))
        self.yes(("block", great, great))
        self.yes(("step", great, -great, great))
        self.yes(("cells", ((great, -great), (-great, great))))
        self.yes(("cells", tuple((t, 0) for t in range(1000))))

    def test_tuple_too_short_or_too_long(self):
        for walk in KINDS:
            for short in range(len(walk)):
                self.no(walk[:short])
            for more in (0, 1, (), None, walk[-1]):
                self.no(walk + (more,))

    def test_lists_for_tuples(self):
        for walk in KINDS:
            self.no(list(walk))
            self.no([walk])
            self.no((walk,))
        self.no(("cells", [(0, 0)]))
        self.no(("cells", ([0, 0],)))
        self.no(("cells", ((0, 0), [0, 1])))
        self.no(("cells", []))

    def test_another_word(self):
        for walk in KINDS:
            for word in ("Row", "rows", "", "skew", "row ", None, True, 0, [walk[0]], (walk[0],)):
                self.no(put(walk, 0, word))
        for word in LINES:
            self.no((word, 2, 3))
            self.no((word, ((0, 0),)))
        self.no(("cells", 3))
        self.no(("block", 3))
        self.no(("step", 2, 3))
        self.no(("block", 1, 2, 3))

    def test_numbers_of_0_and_below(self):
        for number in (0, -1, -(10**20)):
            for word in LINES:
                self.no((word, number))
            self.no(("block", number, 3))
            self.no(("block", 3, number))
            self.no(("block", number, number))
            self.no(("step", 1, 2, number))
        for word in LINES:
            self.yes((word, 1))
        self.yes(("block", 1, 1))
        self.yes(("step", 0, 1, 1))

    def test_no_numbers_for_numbers(self):
        for thing in NO_NUMBERS:
            for word in LINES:
                self.no((word, thing))
            for at in (1, 2):
                self.no(put(("block", 2, 3), at, thing))
            for at in (1, 2, 3):
                self.no(put(("step", 1, -2, 3), at, thing))
            self.no(("cells", ((thing, 0),)))
            self.no(("cells", ((0, thing),)))
            self.no(("cells", ((5, 5), (thing, 0))))

    def test_step_not_both_0(self):
        self.no(("step", 0, 0, 1))
        self.no(("step", 0, 0, 4))
        for down, along in ((0, 1), (0, -1), (1, 0), (-1, 0), (-3, -3)):
            self.yes(("step", down, along, 4))

    def test_cells(self):
        self.no(("cells", ()))
        self.no(("cells", ((0, 0), (0, 0))))
        self.no(("cells", ((1, 2), (0, 0), (-3, 4), (1, 2))))
        self.no(("cells", ((1,),)))
        self.no(("cells", ((1, 2, 3),)))
        self.no(("cells", ((0, 0), (1,))))
        self.no(("cells", ((0, 0), (1, 2, 3))))
        self.no(("cells", ((),)))
        self.no(("cells", (0, 1)))
        self.no(("cells", ("01",)))
        self.no(("cells", (None,)))
        for pairs in (None, 0, True, "", "01", ((((0, 0),),),)):
            self.no(("cells", pairs))
        self.yes(("cells", ((1, 2), (2, 1))))
        self.yes(("cells", ((-1, 0), (1, 0), (0, 0))))

    def test_no_walks_at_all(self):
        for thing in NO_TUPLES_OF_WORDS + DEALINGS:
            self.no(thing)


class CellsOfTests(unittest.TestCase):
    def test_each_kind_in_order(self):
        said = {
            ("row", 3): [(0, 0), (0, 1), (0, 2)],
            ("column", 3): [(0, 0), (1, 0), (2, 0)],
            ("slant", 3): [(0, 0), (1, 1), (2, 2)],
            ("back", 3): [(0, 0), (1, -1), (2, -2)],
            ("block", 2, 3): [(0, 0), (0, 1), (0, 2), (1, 0), (1, 1), (1, 2)],
            ("block", 3, 1): [(0, 0), (1, 0), (2, 0)],
            ("step", -2, 5, 3): [(0, 0), (-2, 5), (-4, 10)],
            ("step", 0, -1, 2): [(0, 0), (0, -1)],
            ("step", 4, 0, 1): [(0, 0)],
            ("cells", ((3, 1), (-1, 0), (2, 2))): [(3, 1), (-1, 0), (2, 2)],
            ("row", 1): [(0, 0)],
            ("column", 1): [(0, 0)],
            ("slant", 1): [(0, 0)],
            ("back", 1): [(0, 0)],
            ("block", 1, 1): [(0, 0)],
        }
        for walk, cells in said.items():
            with self.subTest(walk):
                self.assertTrue(same_kind(cells_of(walk), cells))


class StartsTests(unittest.TestCase):
    def test_written_out(self):
        self.assertEqual(starts(TABLE, ("row", 2)), [(0, 0), (0, 1), (1, 0), (1, 1)])
        self.assertEqual(starts(TABLE, ("back", 2)), [(0, 1), (0, 2)])
        self.assertEqual(starts(TABLE, ("block", 2, 3)), [(0, 0)])
        self.assertEqual(starts(TABLE, ("step", -1, 2, 2)), [(1, 0)])
        self.assertEqual(starts(TABLE, ("row", 1)), [(0, 0), (0, 1), (0, 2), (1, 0), (1, 1), (1, 2)])

    def test_some_are_no_words(self):
        self.assertEqual(starts(TABLE, ("cells", ((3, 3), (3, 5)))), [(-3, -3), (-2, -3)])
        self.assertEqual(starts(TABLE, ("cells", ((-5, 0), (-4, 1)))), [(5, 0), (5, 1)])

    def test_none_where_the_walk_is_larger(self):
        for walk in [("row", 4), ("column", 3), ("slant", 3), ("back", 3), ("block", 3, 1), ("step", 0, 3, 2)]:
            self.assertEqual(starts(TABLE, walk), [])
        self.assertEqual(starts(TABLE, ("cells", ((0, 0), (9, 9), (0, 1)))), [])

    def test_against_the_document(self):
        for dealing in DEALINGS:
            rows, columns, _ = size_said(dealing)
            for walk in WALKS:
                cells = cells_of(walk)
                said = [
                    (i, j)
                    for i in range(-16, rows + 16)
                    for j in range(-16, columns + 16)
                    if all(0 <= i + p < rows and 0 <= j + q < columns for p, q in cells)
                ]
                with self.subTest(dealing=dealing, walk=walk):
                    self.assertTrue(same_kind(starts(dealing, walk), said))


class WordsOfTests(unittest.TestCase):
    def test_in_the_cells_order(self):
        self.assertEqual(words_of(SKEW, ("step", -1, 1, 3), (3, 1)), [(3, 1), (2, 2), (1, 3)])
        self.assertEqual(words_of(SKEW, ("block", 2, 2), (1, 2)), [(1, 2), (1, 3), (2, 2), (2, 3)])
        self.assertEqual(words_of(SKEW, ("cells", ((5, 9), (3, 6), (4, 6))), (-3, -5)), [(2, 4), (0, 1), (1, 1)])

    def test_of_all_starts(self):
        for dealing in DEALINGS:
            for walk in WALKS:
                for i, j in starts(dealing, walk):
                    said = [(i + p, j + q) for p, q in cells_of(walk)]
                    self.assertTrue(same_kind(words_of(dealing, walk, (i, j)), said))

    def test_refused_of_pairs_that_are_no_starts(self):
        for dealing in DEALINGS:
            rows, columns, _ = size_said(dealing)
            for walk in WALKS:
                good = set(starts(dealing, walk))
                for i in range(-8, rows + 8, 3):
                    for j in range(-8, columns + 8, 3):
                        if (i, j) not in good:
                            with self.assertRaises(NoStart):
                                words_of(dealing, walk, (i, j))

    def test_refused_at_the_edges(self):
        for start in [(-1, 0), (0, -1), (3, 0), (0, 4), (4, 5), (-(10**20), 0), (0, 10**20)]:
            with self.subTest(start), self.assertRaises(NoStart):
                words_of(SKEW, ("block", 2, 2), start)
        # The first word would be right, but not the last.
        for start in [(2, 0), (0, 3)]:
            with self.subTest(start), self.assertRaises(NoStart):
                words_of(SKEW, ("cells", ((0, 0), (2, 2))), start)
        with self.assertRaises(NoStart):
            words_of(SKEW, ("cells", ((1, 1), (0, 0))), (-1, -1))

    def test_refused_of_no_pair_of_numbers(self):
        for walk in WALKS:
            for thing in NO_PAIRS:
                with self.subTest(walk=walk, thing=thing), self.assertRaises(NoStart):
                    words_of(SKEW, walk, thing)


if __name__ == "__main__":
    unittest.main()

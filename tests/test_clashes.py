"""[6]: clashes.py."""

import unittest

from bankwalk.clashes import clash, clear_starts, loads, shows_clash
from bankwalk.errors import NoStart
from tests.samples import (
    BITS,
    DEALINGS,
    JOINED,
    NO_NUMBERS,
    NO_PAIRS,
    NO_TUPLES_OF_WORDS,
    RESTS,
    SKEW,
    TABLE,
    WALKS,
    alike_said,
    banks_said,
    changed,
    same_kind,
    size_said,
    words_said,
)

MORE_WALKS = [
    ("row", 2),
    ("row", 5),
    ("column", 2),
    ("slant", 2),
    ("back", 2),
    ("block", 2, 2),
    ("step", 1, -2, 2),
    ("step", -1, -1, 2),
    ("cells", ((0, 0), (0, 2))),
    ("cells", ((1, 1), (0, 0), (0, 1))),
    ("cells", ((0, 2), (0, 1), (0, 0))),
]


def bank_rows(dealing, walk):
    """For each start, as they rise, the banks of the words from there."""
    banks = banks_said(dealing)
    return {start: [banks[word] for word in words] for start, words in words_said(dealing, walk).items()}


def asked():
    return [(dealing, walk) for dealing in DEALINGS for walk in WALKS + MORE_WALKS]


class ClashTests(unittest.TestCase):
    def test_written_out(self):
        self.assertIsNone(clash(SKEW, ("row", 5)))
        self.assertIsNone(clash(SKEW, ("column", 4)))
        self.assertEqual(clash(SKEW, ("step", 1, 2, 2)), ((0, 0), 0, 1))
        self.assertEqual(clash(SKEW, ("block", 2, 3)), ((0, 0), 0, 5))
        self.assertEqual(clash(RESTS, ("row", 4)), ((0, 0), 0, 3))
        self.assertEqual(clash(TABLE, ("row", 2)), ((1, 0), 0, 1))
        self.assertEqual(clash(TABLE, ("row", 3)), ((0, 0), 0, 2))
        self.assertIsNone(clash(TABLE, ("column", 2)))
        self.assertIsNone(clash(BITS, ("row", 2)))
        self.assertEqual(clash(JOINED, ("column", 3)), ((0, 0), 0, 2))

    def test_the_first_start_rises_by_pairs(self):
        cells = ("cells", ((-2, 3), (-2, 4)))
        self.assertEqual(clash(("table", 2, ((0, 1, 0), (0, 1, 1), (1, 1, 0))), cells), ((3, -2), 0, 1))

    def test_k_the_least_then_l(self):
        self.assertEqual(clash(("table", 3, ((0, 1, 1, 2, 0, 0),)), ("row", 6)), ((0, 0), 0, 4))
        self.assertEqual(clash(("table", 3, ((2, 1, 1, 0, 0, 1),)), ("row", 6)), ((0, 0), 1, 2))
        self.assertEqual(clash(("table", 2, ((0, 0, 0),)), ("row", 3)), ((0, 0), 0, 1))

    def test_cells_stand_in_their_own_order(self):
        table = ("table", 2, ((0, 0, 1),))
        self.assertEqual(clash(table, ("cells", ((0, 2), (0, 1), (0, 0)))), ((0, 0), 1, 2))
        self.assertEqual(clash(table, ("cells", ((0, 1), (0, 2), (0, 0)))), ((0, 0), 0, 2))

    def test_clear_without_a_start_and_of_one_cell(self):
        for dealing in DEALINGS:
            self.assertIsNone(clash(dealing, ("row", 40)))
            self.assertIsNone(clash(dealing, ("step", 15, -15, 9)))
            self.assertIsNone(clash(dealing, ("cells", ((-3, 4),))))

    def test_against_the_document(self):
        for dealing, walk in asked():
            said = None
            for start, banks in bank_rows(dealing, walk).items():
                if alike_said(banks):
                    said = (start,) + alike_said(banks)[0]
                    break
            with self.subTest(dealing=dealing, walk=walk):
                self.assertTrue(same_kind(clash(dealing, walk), said))

    def test_both_sorts_are_asked_of_each_kind_of_dealing(self):
        kinds = {(dealing[0], clash(dealing, walk) is None) for dealing, walk in asked() if bank_rows(dealing, walk)}
        self.assertEqual(len(kinds), 10)


class ShowsClashTests(unittest.TestCase):
    def no(self, dealing, walk, thing):
        with self.subTest(dealing=dealing, walk=walk, thing=thing):
            self.assertIs(shows_clash(dealing, walk, thing), False)

    def test_all_starts_and_cells(self):
        for dealing, walk in asked():
            if size_said(dealing)[0] * size_said(dealing)[1] > 70:
                continue
            for start, banks in bank_rows(dealing, walk).items():
                alike = alike_said(banks)
                for k in range(-1, len(banks) + 1):
                    for l in range(-1, len(banks) + 1):
                        self.assertIs(shows_clash(dealing, walk, (start, k, l)), (k, l) in alike)

    def test_what_clash_tells(self):
        for dealing, walk in asked():
            told = clash(dealing, walk)
            self.assertIs(shows_clash(dealing, walk, told), told is not None)

    def test_a_start_or_cells_that_are_not_the_first(self):
        row = ("row", 3)
        table = ("table", 2, ((0, 0, 0), (0, 1, 1)))
        for thing in (((0, 0), 0, 1), ((0, 0), 0, 2), ((0, 0), 1, 2), ((1, 0), 1, 2)):
            self.assertIs(shows_clash(table, row, thing), True)
        self.no(table, row, ((1, 0), 0, 1))

    def test_k_not_below_l(self):
        table = ("table", 2, ((0, 0, 0),))
        self.no(table, ("row", 3), ((0, 0), 1, 0))
        self.no(table, ("row", 3), ((0, 0), 1, 1))
        self.no(table, ("row", 3), ((0, 0), -1, 2))
        self.no(table, ("row", 3), ((0, 0), -3, -1))
        self.no(table, ("row", 3), ((0, 0), -1, 0))
        self.no(table, ("row", 3), ((0, 0), 0, 3))

    def test_no_start(self):
        table = ("table", 2, ((0, 0, 0), (0, 0, 0)))
        for start in [(0, 2), (2, 0), (-1, 0), (0, -1), (10**20, 0), *NO_PAIRS]:
            self.no(table, ("row", 2), (start, 0, 1))

    def test_a_start_that_is_no_word(self):
        table = ("table", 2, ((0, 0, 0), (0, 0, 0)))
        self.assertIs(shows_clash(table, ("cells", ((-5, 7), (-5, 8))), ((5, -7), 0, 1)), True)

    def test_no_numbers(self):
        table = ("table", 2, ((0, 0, 0),))
        for thing in NO_NUMBERS:
            self.no(table, ("row", 3), ((0, 0), thing, 2))
            self.no(table, ("row", 3), ((0, 0), 0, thing))
        self.no(table, ("row", 3), ((0, 0), False, 1))
        self.no(table, ("row", 3), ((0, 0), 0, True))
        self.no(table, ("row", 3), ((False, 0), 0, 1))
        self.no(table, ("row", 3), ((0, False), 0, 1))

    def test_things_that_are_no_such_tuple(self):
        told = clash(TABLE, ("row", 3))
        for thing in changed(told) + NO_TUPLES_OF_WORDS + [((0, 0), 0), ((0, 0), (0, 2)), (0, 0, 0, 2), "abc"]:
            self.no(TABLE, ("row", 3), thing)


class LoadsTests(unittest.TestCase):
    def test_written_out(self):
        self.assertEqual(loads(SKEW, ("row", 3), (1, 0)), [1, 1, 0, 1, 0])
        self.assertEqual(loads(TABLE, ("block", 2, 2), (0, 1)), [1, 1, 2])
        self.assertEqual(loads(("table", 9, ((8,), (0,), (8,))), ("column", 3), (0, 0)), [1, 0, 0, 0, 0, 0, 0, 0, 2])

    def test_against_the_document(self):
        for dealing, walk in asked():
            many = size_said(dealing)[2]
            for start, banks in list(bank_rows(dealing, walk).items())[:40]:
                with self.subTest(dealing=dealing, walk=walk, start=start):
                    said = [banks.count(bank) for bank in range(many)]
                    self.assertTrue(same_kind(loads(dealing, walk, start), said))

    def test_refused_of_no_start(self):
        for dealing in DEALINGS:
            rows, columns, _ = size_said(dealing)
            for start in [(-1, 0), (0, -1), (rows, 0), (0, columns), (0, columns - 1), *NO_PAIRS]:
                with self.subTest(dealing=dealing, start=start), self.assertRaises(NoStart):
                    loads(dealing, ("row", 2), start)
            with self.assertRaises(NoStart):
                loads(dealing, ("row", 40), (0, 0))


class ClearStartsTests(unittest.TestCase):
    def test_written_out(self):
        self.assertEqual(clear_starts(TABLE, ("row", 2)), [(0, 0), (0, 1), (1, 1)])
        self.assertEqual(clear_starts(TABLE, ("row", 3)), [])
        self.assertEqual(clear_starts(TABLE, ("row", 4)), [])
        self.assertEqual(clear_starts(SKEW, ("row", 5)), [(0, 0), (1, 0), (2, 0), (3, 0)])
        self.assertEqual(clear_starts(TABLE, ("cells", ((1, 1),))), [(i, j) for i in (-1, 0) for j in (-1, 0, 1)])

    def test_against_the_document(self):
        for dealing, walk in asked():
            said = [start for start, banks in bank_rows(dealing, walk).items() if len(set(banks)) == len(banks)]
            with self.subTest(dealing=dealing, walk=walk):
                self.assertTrue(same_kind(clear_starts(dealing, walk), said))

    def test_some_and_all_and_none(self):
        sorts = set()
        for dealing, walk in asked():
            many, clear = len(words_said(dealing, walk)), len(clear_starts(dealing, walk))
            sorts.add((many > 0, clear > 0, clear == many))
        self.assertEqual(sorts, {(False, False, True), (True, False, False), (True, True, False), (True, True, True)})


if __name__ == "__main__":
    unittest.main()

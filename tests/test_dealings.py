"""[3]: dealings.py."""

import unittest

from bankwalk.dealings import bank_of, is_dealing, size_of
from bankwalk.errors import NoWord
from tests.samples import (
    BITS,
    DEALINGS,
    JOINED,
    NO_NUMBERS,
    NO_PAIRS,
    NO_TUPLES_OF_WORDS,
    RESTS,
    SKEW,
    TABLE,
    WALKS,
    banks_said,
    put,
    same_kind,
    size_said,
)

KINDS = [SKEW, RESTS, BITS, TABLE, JOINED]


class IsDealingTests(unittest.TestCase):
    def yes(self, thing):
        with self.subTest(thing):
            self.assertIs(is_dealing(thing), True)

    def no(self, thing):
        with self.subTest(thing):
            self.assertIs(is_dealing(thing), False)

    def test_true_of_each_kind(self):
        for dealing in DEALINGS:
            self.yes(dealing)

    def test_true_of_great_numbers(self):
        great = 10**40
        self.yes(("skew", great, great, great, great, 0))
        self.yes(("skew", 1, 1, 1, 0, great))
        self.yes(("rests", great, great, great, great + 1))
        self.yes(("rests", 1, 1, 2**100, 3**100))
        self.yes(("bits", 99, 99, (0, 1, 2**198 - 1, 2**197)))
        self.yes(("bits", 99, 0, tuple(2**t for t in range(99))))
        self.yes(("bits", 0, 99, (2**99 - 1,) * 200))
        self.yes(("table", great, ((great - 1, 0),)))
        self.yes(("table", 1, ((0,) * 300,) * 300))
        self.yes(("joined", ("skew", great, great, great, 0, 0), ("bits", 99, 99, ())))

    def test_false_of_great_numbers(self):
        great = 10**40
        self.no(("rests", great, great, great, great))
        self.no(("rests", great, great, great, great - 1))
        self.no(("rests", 1, 1, 2 * 3**100, 2 * 5**100))
        self.no(("bits", 99, 99, (2**198,)))
        self.no(("table", great, ((great,),)))

    def test_joined_within_one_another(self):
        deep = SKEW
        for turn in range(15):
            deep = ("joined", deep, RESTS) if turn % 2 else ("joined", BITS, deep)
            self.yes(deep)
            self.no(put(deep, 1, None))
        bad = ("skew", 0, 1, 1, 0, 0)
        for turn in range(15):
            bad = ("joined", bad, TABLE) if turn % 2 else ("joined", TABLE, bad)
            self.no(bad)

    def test_tuple_too_short_or_too_long(self):
        for dealing in KINDS:
            for short in range(len(dealing)):
                self.no(dealing[:short])
            for more in (0, 1, (), None, dealing[-1]):
                self.no(dealing + (more,))

    def test_lists_for_tuples(self):
        for dealing in KINDS:
            self.no(list(dealing))
            self.no((dealing,))
            self.no([dealing])
        self.no(("bits", 2, 3, [5, 26]))
        self.no(("bits", 2, 3, []))
        self.no(("table", 3, [(0, 2), (1, 1)]))
        self.no(("table", 3, ([0, 2], (1, 1))))
        self.no(("table", 3, ((0, 2), [1, 1])))
        self.no(("table", 3, [[0, 2], [1, 1]]))
        self.no(("joined", list(SKEW), SKEW))
        self.no(("joined", SKEW, list(SKEW)))

    def test_another_word(self):
        for dealing in KINDS:
            for word in ("Skew", "skews", "skew ", "", "row", None, True, 0, ["skew"], ("skew",)):
                self.no(put(dealing, 0, word))
            for other in KINDS:
                if len(dealing) != len(other):
                    self.no(put(dealing, 0, other[0]))
        self.no(put(TABLE, 0, "joined"))
        self.no(put(JOINED, 0, "table"))

    def test_no_numbers_for_numbers(self):
        for thing in NO_NUMBERS:
            for at in range(1, 6):
                self.no(put(SKEW, at, thing))
            for at in range(1, 5):
                self.no(put(RESTS, at, thing))
            for at in (1, 2):
                self.no(put(BITS, at, thing))
            self.no(("bits", 2, 3, (thing,)))
            self.no(("bits", 2, 3, (5, thing)))
            self.no(put(TABLE, 1, thing))
            self.no(("table", 3, ((thing, 1), (1, 1))))
            self.no(("table", 3, ((0, 1), (1, thing))))
        # Where they'd be right if they were 1 and 0.
        self.no(("rests", 1, 1, True, 1))
        self.no(("rests", 1, 1, 1, True))
        self.no(("bits", False, 1, ()))
        self.no(("table", True, ((0,),)))

    def test_skew_numbers(self):
        for at in (1, 2, 3):
            for number in (0, -1, -7):
                self.no(put(SKEW, at, number))
            self.yes(put(SKEW, at, 1))
        for at in (4, 5):
            for number in (-1, -7):
                self.no(put(SKEW, at, number))
            self.yes(put(SKEW, at, 0))

    def test_rests_numbers(self):
        for at in (1, 2, 3, 4):
            for number in (0, -1, -7):
                self.no(put(("rests", 1, 1, 1, 1), at, number))
        self.no(("rests", -1, -1, 1, 1))
        self.no(("rests", 1, 1, -1, -1))
        self.no(("rests", 3, 4, -3, -5))

    def test_rests_with_a_common_divisor(self):
        for banks, places in ((2, 8), (8, 2), (6, 9), (5, 5), (4, 6), (15, 35), (12, 18)):
            self.no(("rests", 1, 1, banks, places))
        for banks, places in ((1, 8), (8, 1), (8, 9), (9, 8), (5, 7), (4, 15), (1, 1)):
            self.yes(("rests", 1, 1, banks, places))

    def test_rests_with_too_small_a_product(self):
        self.yes(("rests", 3, 4, 3, 4))
        self.yes(("rests", 4, 3, 4, 3))
        self.no(("rests", 3, 4, 1, 11))
        self.yes(("rests", 3, 4, 1, 12))
        self.no(("rests", 1, 13, 3, 4))
        self.no(("rests", 13, 1, 3, 4))

    def test_bits_numbers(self):
        self.no(("bits", -1, 3, ()))
        self.no(("bits", 3, -1, ()))
        self.no(("bits", -1, -1, ()))
        self.yes(("bits", 0, 0, ()))
        for high, low in ((0, 0), (1, 0), (0, 1), (2, 3), (99, 99)):
            self.yes(("bits", high, low, (2 ** (high + low) - 1,)))
            self.no(("bits", high, low, (2 ** (high + low),)))
            self.no(("bits", high, low, (0, 2 ** (high + low))))
            self.no(("bits", high, low, (-1,)))
            self.no(("bits", high, low, (0, -1, 0)))
        for masks in (None, 5, "5", True, ((5,),), (((),),)):
            self.no(("bits", 2, 3, masks))

    def test_table_cells(self):
        self.no(("table", 3, ()))
        self.no(("table", 3, ((),)))
        self.no(("table", 3, ((), ())))
        self.no(("table", 3, ((0, 1), (0,))))
        self.no(("table", 3, ((0,), (0, 1))))
        self.no(("table", 3, ((0, 1), ())))
        self.no(("table", 3, ((), (0, 1))))
        self.no(("table", 3, ((0, 3),)))
        self.no(("table", 3, ((0, 2), (3, 0))))
        self.no(("table", 3, ((0, -1),)))
        self.no(("table", 3, ((0, 2), (-1, 0))))
        self.no(("table", 0, ((0,),)))
        self.no(("table", -1, ((0,),)))
        self.no(("table", 0, ()))
        self.yes(("table", 3, ((2,),)))
        for cells in (None, 0, "00", "", True, (0, 1), ("00", "00"), (None,), ((0, 1), 0), ((0, 1), "01")):
            self.no(("table", 3, cells))

    def test_joined_of_no_dealing(self):
        for thing in NO_TUPLES_OF_WORDS + WALKS + [("skew", 0, 1, 1, 0, 0), ("joined", SKEW, None), ("joined", SKEW)]:
            self.no(("joined", thing, SKEW))
            self.no(("joined", SKEW, thing))
            self.no(("joined", thing, thing))

    def test_no_dealings_at_all(self):
        for thing in NO_TUPLES_OF_WORDS + WALKS:
            self.no(thing)


class SizeOfTests(unittest.TestCase):
    def test_written_out(self):
        self.assertEqual(size_of(SKEW), (4, 5, 5))
        self.assertEqual(size_of(RESTS), (3, 4, 3))
        self.assertEqual(size_of(BITS), (4, 8, 4))
        self.assertEqual(size_of(("bits", 0, 0, ())), (1, 1, 1))
        self.assertEqual(size_of(("bits", 3, 1, (0, 0, 0))), (8, 2, 8))
        self.assertEqual(size_of(TABLE), (2, 3, 3))
        self.assertEqual(size_of(JOINED), (6, 6, 6))

    def test_against_the_document(self):
        for dealing in DEALINGS:
            with self.subTest(dealing):
                self.assertTrue(same_kind(size_of(dealing), size_said(dealing)))


class BankOfTests(unittest.TestCase):
    def banks(self, dealing):
        rows, columns, _ = size_said(dealing)
        return [[bank_of(dealing, (i, j)) for j in range(columns)] for i in range(rows)]

    def test_written_out(self):
        self.assertEqual(self.banks(SKEW), [[0, 2, 4, 1, 3], [1, 3, 0, 2, 4], [2, 4, 1, 3, 0], [3, 0, 2, 4, 1]])
        self.assertEqual(self.banks(RESTS), [[0, 1, 2, 0], [1, 2, 0, 1], [2, 0, 1, 2]])
        self.assertEqual(self.banks(("bits", 1, 2, (1, 6))), [[0, 1, 2, 3], [2, 3, 0, 1]])
        self.assertEqual(self.banks(("bits", 1, 1, ())), [[0, 0], [0, 0]])
        self.assertEqual(self.banks(TABLE), [[0, 2, 0], [1, 1, 2]])
        two = ("joined", ("skew", 1, 2, 2, 0, 1), ("table", 3, ((0, 2), (1, 0))))
        self.assertEqual(self.banks(two), [[0, 2, 3, 5], [1, 0, 4, 3]])

    def test_against_the_document(self):
        for dealing in DEALINGS:
            for word, bank in banks_said(dealing).items():
                with self.subTest(dealing=dealing, word=word):
                    self.assertTrue(same_kind(bank_of(dealing, word), bank))

    def test_banks_are_below_banks(self):
        for dealing in DEALINGS:
            for bank in sum(self.banks(dealing), []):
                self.assertIn(bank, range(size_of(dealing)[2]))

    def test_far_more_banks_than_words(self):
        self.assertEqual(bank_of(("bits", 0, 1, (1,) * 1000), (0, 1)), 2**1000 - 1)
        self.assertEqual(bank_of(("bits", 0, 1, (1,) + (0,) * 999), (0, 1)), 1)

    def test_refused_outside_of_the_table(self):
        for dealing in DEALINGS:
            rows, columns, _ = size_said(dealing)
            outside = [(-1, 0), (0, -1), (rows, 0), (0, columns), (rows, columns), (-1, -1), (-rows, -columns)]
            outside += [(rows - 1, columns), (rows, columns - 1), (10**20, 0), (0, -(10**20)), (1, -columns)]
            for word in outside:
                with self.subTest(dealing=dealing, word=word), self.assertRaises(NoWord):
                    bank_of(dealing, word)

    def test_refused_of_no_pair_of_numbers(self):
        for dealing in DEALINGS:
            for thing in NO_PAIRS:
                with self.subTest(dealing=dealing, thing=thing), self.assertRaises(NoWord):
                    bank_of(dealing, thing)


if __name__ == "__main__":
    unittest.main()

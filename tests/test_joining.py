"""[12]: joining.py."""

import unittest

from bankwalk.clashes import clear_starts
from bankwalk.dealings import bank_of, is_dealing, size_of
from bankwalk.errors import BankError, NoWalk
from bankwalk.joining import flat_table, split, spread
from bankwalk.walks import is_walk, words_of
from tests.samples import (
    BITS,
    DEALINGS,
    JOINED,
    RESTS,
    SKEW,
    TABLE,
    WALKS,
    banks_said,
    cells_said,
    same_kind,
    size_said,
    words_said,
)

JOINED_ONES = [dealing for dealing in DEALINGS if dealing[0] == "joined"]

SMALL_WALKS = [
    ("row", 2),
    ("column", 2),
    ("slant", 2),
    ("back", 2),
    ("block", 2, 2),
    ("step", 0, -1, 2),
    ("step", 1, 2, 2),
    ("cells", ((0, 0),)),
    ("cells", ((0, 1), (-1, 0))),
]


def spread_said(one, other, rows, columns):
    """The cells by the document, in its order."""
    pairs = []
    for p, q in cells_said(one):
        for r, t in cells_said(other):
            pairs.append((p * rows + r, q * columns + t))
    return pairs


def parts_said(dealing):
    """Of each word of a joined dealing the pair of one's word and other's, built up with no division."""
    _, one, other = dealing
    rows, columns, _ = size_said(other)
    return {
        (p * rows + q, r * columns + t): ((p, r), (q, t)) for p, r in banks_said(one) for q, t in banks_said(other)
    }


class SpreadTests(unittest.TestCase):
    def test_written_out(self):
        self.assertEqual(spread(("row", 2), ("column", 2), 3, 4), ("cells", ((0, 0), (1, 0), (0, 4), (1, 4))))
        self.assertEqual(spread(("column", 2), ("row", 2), 3, 4), ("cells", ((0, 0), (0, 1), (3, 0), (3, 1))))
        self.assertEqual(spread(("back", 2), ("cells", ((-1, 5),)), 2, 3), ("cells", ((-1, 5), (1, 2))))
        self.assertEqual(spread(("slant", 1), ("block", 1, 2), 1, 1), ("cells", ((0, 0), (0, 1))))

    def test_rows_and_columns_are_not_exchanged(self):
        self.assertEqual(spread(("slant", 2), ("row", 1), 5, 7), ("cells", ((0, 0), (5, 7))))

    def test_walks_of_every_word_against_the_document(self):
        clear, refused = set(), set()
        for one in WALKS:
            for other in WALKS:
                for rows, columns in ((1, 1), (1, 3), (2, 1), (3, 4), (16, 16)):
                    pairs = spread_said(one, other, rows, columns)
                    with self.subTest(one=one, other=other, rows=rows, columns=columns):
                        if len(set(pairs)) < len(pairs):
                            refused |= {one[0], other[0]}
                            self.refused(one, other, rows, columns)
                        else:
                            clear |= {one[0], other[0]}
                            told = spread(one, other, rows, columns)
                            self.assertTrue(same_kind(told, ("cells", tuple(pairs))))
                            self.assertIs(is_walk(told), True)
        self.assertEqual(len(clear), 7)
        self.assertEqual(len(refused), 7)

    def refused(self, one, other, rows, columns):
        with self.assertRaises(NoWalk) as caught:
            spread(one, other, rows, columns)
        self.assertEqual(type(caught.exception).__bases__, (BankError,))

    def test_refused_where_two_are_alike(self):
        self.refused(("row", 2), ("row", 3), 1, 2)
        self.refused(("column", 2), ("column", 2), 1, 1)
        self.refused(("row", 3), ("step", 0, -4, 2), 9, 2)
        self.refused(("cells", ((0, 0), (1, -1))), ("cells", ((2, 0), (0, 3))), 2, 3)

    def test_not_refused_where_they_lie_close(self):
        self.assertEqual(spread(("row", 2), ("row", 3), 1, 3), ("cells", tuple((0, t) for t in range(6))))
        self.assertEqual(spread(("row", 2), ("step", 0, 2, 2), 1, 1), ("cells", ((0, 0), (0, 2), (0, 1), (0, 3))))

    def test_what_was_spread_is_spread_again(self):
        once = spread(("row", 2), ("column", 2), 2, 2)
        twice = spread(once, ("block", 2, 2), 2, 2)
        self.assertEqual(twice, ("cells", tuple(spread_said(once, ("block", 2, 2), 2, 2))))
        self.assertEqual(len(twice[1]), 16)


class SplitTests(unittest.TestCase):
    def test_written_out(self):
        self.assertEqual(split(JOINED, (0, 0)), ((0, 0), (0, 0)))
        self.assertEqual(split(JOINED, (2, 1)), ((0, 0), (2, 1)))
        self.assertEqual(split(JOINED, (3, 2)), ((1, 1), (0, 0)))
        self.assertEqual(split(JOINED, (5, 3)), ((1, 1), (2, 1)))

    def test_against_the_document(self):
        self.assertEqual(len([dealing for dealing in JOINED_ONES if "joined" in (dealing[1][0], dealing[2][0])]), 2)
        for dealing in JOINED_ONES:
            for word, parts in parts_said(dealing).items():
                with self.subTest(dealing=dealing, word=word):
                    self.assertTrue(same_kind(split(dealing, word), parts))

    def test_within_one_another(self):
        dealing = ("joined", ("joined", ("skew", 2, 2, 2, 1, 1), TABLE), ("skew", 3, 1, 3, 1, 0))
        upper, lower = split(dealing, (11, 4))
        self.assertEqual((upper, lower), ((3, 4), (2, 0)))
        self.assertEqual(split(dealing[1], upper), ((1, 1), (1, 1)))

    def test_banks_are_joined_of_the_parts(self):
        for dealing in JOINED_ONES:
            for word in banks_said(dealing):
                upper, lower = split(dealing, word)
                many = size_of(dealing[2])[2]
                joined = bank_of(dealing[1], upper) * many + bank_of(dealing[2], lower)
                self.assertEqual(bank_of(dealing, word), joined)


class FlatTableTests(unittest.TestCase):
    def test_written_out(self):
        self.assertEqual(flat_table(("skew", 2, 3, 5, 1, 2)), ("table", 5, ((0, 2, 4), (1, 3, 0))))
        self.assertEqual(flat_table(("rests", 2, 2, 9, 1)), ("table", 9, ((0, 1), (2, 3))))
        self.assertEqual(flat_table(("bits", 1, 1, ())), ("table", 1, ((0, 0), (0, 0))))
        self.assertEqual(flat_table(TABLE), TABLE)
        one = ("joined", ("skew", 1, 2, 2, 0, 1), ("skew", 2, 1, 3, 2, 0))
        self.assertEqual(flat_table(one), ("table", 6, ((0, 3), (2, 5))))

    def test_word_by_word(self):
        for dealing in DEALINGS:
            flat = flat_table(dealing)
            with self.subTest(dealing):
                self.assertIs(is_dealing(flat), True)
                self.assertEqual(flat[0], "table")
                self.assertEqual(size_of(flat), size_said(dealing))
                for word, bank in banks_said(dealing).items():
                    self.assertEqual(bank_of(flat, word), bank)
                    self.assertEqual(bank_of(dealing, word), bank)
                self.assertTrue(same_kind(flat_table(flat), flat))

    def test_banks_are_kept_that_no_word_is_in(self):
        self.assertEqual(flat_table(("skew", 1, 1, 7, 3, 3)), ("table", 7, ((0,),)))


class ClearTests(unittest.TestCase):
    def clear_words(self, dealing, walk):
        return [start for start in clear_starts(dealing, walk) if start in banks_said(dealing)]

    def check(self, dealing, one, other, word):
        """The walk spread has the joined dealing's word as a start, and no two of its words are in one bank."""
        rows, columns, _ = size_said(dealing[2])
        walk = spread(one, other, rows, columns)
        words = words_of(dealing, walk, word)
        self.assertEqual(words, words_said(dealing, walk)[word])
        self.assertEqual(len({bank_of(dealing, each) for each in words}), len(words))
        self.assertIn(word, clear_starts(dealing, walk))

    def test_clear_from_two_words_and_from_the_joined_one(self):
        many = 0
        for dealing in [JOINED, ("joined", SKEW, TABLE), ("joined", TABLE, ("rests", 2, 3, 3, 2)), *JOINED_ONES[2:]]:
            rows, columns, _ = size_said(dealing[2])
            for one in SMALL_WALKS:
                for other in SMALL_WALKS:
                    for p, r in self.clear_words(dealing[1], one)[:3]:
                        for q, t in self.clear_words(dealing[2], other)[:3]:
                            with self.subTest(dealing=dealing, one=one, other=other, word=(p, r, q, t)):
                                word = (p * rows + q, r * columns + t)
                                self.assertEqual(split(dealing, word), ((p, r), (q, t)))
                                self.check(dealing, one, other, word)
                                many += 1
        self.assertGreater(many, 300)

    def test_greater_ones(self):
        dealing = ("joined", RESTS, BITS)
        for one in (("row", 3), ("column", 3)):
            for other in (("row", 2), ("step", 2, 1, 2)):
                for start in self.clear_words(BITS, other):
                    rows, columns, _ = size_said(BITS)
                    self.check(dealing, one, other, (start[0], columns + start[1]) if one[0] == "row" else start)


if __name__ == "__main__":
    unittest.main()

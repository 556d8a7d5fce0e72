"""[8]: flips.py."""

import itertools
import unittest
from functools import reduce
from operator import xor

from bankwalk.dealings import bank_of
from bankwalk.flips import flip_clash, flip_paper, flips, rank_of, shows_flips
from tests.samples import BITS, NO_NUMBERS, NO_TUPLES_OF_WORDS, banks_said, changed, numbered, odd, same_kind

ASKED = [
    BITS,
    ("bits", 0, 1, (1,)),
    ("bits", 0, 1, ()),
    ("bits", 1, 0, (0, 1)),
    ("bits", 2, 0, (3, 3, 0)),
    ("bits", 1, 2, (7,)),
    ("bits", 1, 2, (1, 2, 4)),
    ("bits", 2, 2, (1, 2, 4, 8)),
    ("bits", 2, 2, (9, 6, 15)),
    ("bits", 1, 3, (3, 5, 6, 8, 15)),
    ("bits", 2, 2, (0, 0, 12, 3)),
]


def marks_for(dealing):
    """Lists of marks of a dealing: none, alike ones, sums of others, in any order."""
    end = 2 ** (dealing[1] + dealing[2])
    told = [[]] + [list(marks) for many in (1, 2) for marks in itertools.product(range(1, end), repeat=many)]
    few = [mark for mark in (1, 2, 3, 4, 7, 9, 13) if mark < end]
    told += [list(marks) for marks in itertools.product(few, repeat=3)]
    told += [list(marks) for marks in itertools.permutations(few, 4)]
    return told + [[1, 1, 1, 1], [end - 1] * 4]


def flips_said(marks):
    """By the bits of s, one by one."""
    return [reduce(xor, [mark for t, mark in enumerate(marks) if s >> t & 1], 0) for s in range(2 ** len(marks))]


def bank_numbers(dealing):
    """Each word's bank, by its number."""
    banks = banks_said(dealing)
    words = numbered(2 ** dealing[1], 2 ** dealing[2])
    return [banks[words[number]] for number in range(len(words))]


def clear_said(dealing, marks):
    """By a look at all words: unlike s lead to unlike banks from each."""
    banks = bank_numbers(dealing)
    told = flips_said(marks)
    return all(len({banks[x ^ flip] for flip in told}) == len(told) for x in range(len(banks)))


def is_paper(dealing, marks, paper):
    banks = bank_numbers(dealing)
    if len(paper) != len(marks) or not all(0 <= number < 2 ** len(dealing[3]) for number in paper):
        return False
    return all(
        odd(number & banks[mark]) == (t == at) for t, number in enumerate(paper) for at, mark in enumerate(marks)
    )


class FlipsTests(unittest.TestCase):
    def test_written_out(self):
        self.assertEqual(flips([]), [0])
        self.assertEqual(flips([5]), [0, 5])
        self.assertEqual(flips([1, 2]), [0, 1, 2, 3])
        self.assertEqual(flips([6, 3, 8]), [0, 6, 3, 5, 8, 14, 11, 13])
        self.assertEqual(flips([7, 7]), [0, 7, 7, 0])

    def test_against_the_document(self):
        for marks in [[], [1], [9, 9], [1, 2, 3], [5, 6, 9, 255], [255] * 4, [8, 4, 2, 1], [2**15, 3, 2**15 - 1]]:
            self.assertTrue(same_kind(flips(marks), flips_said(marks)))


class RankOfTests(unittest.TestCase):
    def said(self, numbers):
        """By trying all choices of the numbers, the greatest first."""
        for many in range(len(numbers), 0, -1):
            for some in itertools.combinations(numbers, many):
                if 0 not in flips_said(some)[1:]:
                    return many
        return 0

    def test_written_out(self):
        self.assertEqual(rank_of([]), 0)
        self.assertEqual(rank_of([0]), 0)
        self.assertEqual(rank_of([0, 0, 0]), 0)
        self.assertEqual(rank_of([5]), 1)
        self.assertEqual(rank_of([5, 5, 5]), 1)
        self.assertEqual(rank_of([1, 2, 3]), 2)
        self.assertEqual(rank_of([3, 5, 6]), 2)
        self.assertEqual(rank_of([0, 3, 5, 7, 0]), 3)
        self.assertEqual(rank_of([2**t for t in range(16)]), 16)
        self.assertEqual(rank_of([2**16 - 2**t for t in range(16)]), 16)
        self.assertEqual(rank_of([65535 - 2**t for t in range(16)]), 16)
        self.assertEqual(rank_of([2**t + 1 for t in range(1, 16)] + [0]), 15)
        self.assertEqual(rank_of([2**t ^ 2 ** ((t + 1) % 16) for t in range(16)]), 15)

    def test_beside_all_choices(self):
        for many in range(5):
            for numbers in itertools.product(range(8), repeat=many):
                self.assertTrue(same_kind(rank_of(list(numbers)), self.said(numbers)), numbers)
        for numbers in itertools.permutations([0, 6, 9, 15, 20, 29], 5):
            self.assertEqual(rank_of(list(numbers)), self.said(numbers), numbers)

    def test_beside_how_many_sums_there_are(self):
        for seed in range(1, 200):
            numbers = [(seed * 40503 * (t + 3) ** 2 >> 3) % 65536 & (seed | 0x1248 << t % 3) for t in range(seed % 12)]
            self.assertEqual(2 ** rank_of(numbers), len(set(flips_said(numbers))), numbers)


class FlipClashTests(unittest.TestCase):
    def test_written_out(self):
        self.assertIsNone(flip_clash(("bits", 1, 2, (1, 2, 4)), [1, 2, 4]))
        self.assertIsNone(flip_clash(("bits", 1, 2, (1, 2, 4)), []))
        self.assertEqual(flip_clash(("bits", 1, 2, (1, 2, 4)), [1, 2, 1]), 5)
        self.assertEqual(flip_clash(("bits", 1, 2, (1, 2)), [3, 4]), 2)
        self.assertEqual(flip_clash(("bits", 1, 2, (7,)), [1, 2]), 3)
        self.assertEqual(flip_clash(("bits", 1, 2, ()), [1]), 1)
        self.assertIsNone(flip_clash(("bits", 0, 0, ()), []))
        self.assertEqual(flip_clash(("bits", 2, 2, (15,)), [1, 2, 4, 8]), 3)

    def test_against_the_document(self):
        for dealing in ASKED:
            banks = bank_numbers(dealing)
            for marks in marks_for(dealing):
                said = [s for s, flip in enumerate(flips_said(marks)) if s > 0 and banks[flip] == 0]
                with self.subTest(dealing=dealing, marks=marks):
                    self.assertTrue(same_kind(flip_clash(dealing, marks), said[0] if said else None))

    def test_none_where_unlike_numbers_lead_to_unlike_banks(self):
        for dealing in ASKED:
            for marks in marks_for(dealing)[::3]:
                self.assertIs(flip_clash(dealing, marks) is None, clear_said(dealing, marks))

    def test_from_every_word(self):
        for dealing in ASKED:
            columns = 2 ** dealing[2]
            for marks in marks_for(dealing)[::7]:
                s = flip_clash(dealing, marks)
                if s is not None:
                    for x in range(columns * 2 ** dealing[1]):
                        y = x ^ flips(marks)[s]
                        banks = [bank_of(dealing, (z // columns, z % columns)) for z in (x, y)]
                        self.assertEqual(banks[0], banks[1])


class FlipPaperTests(unittest.TestCase):
    def test_papers_and_none(self):
        told = set()
        for dealing in ASKED:
            for marks in marks_for(dealing):
                paper = flip_paper(dealing, marks)
                with self.subTest(dealing=dealing, marks=marks):
                    self.assertIs(paper is None, flip_clash(dealing, marks) is not None)
                    if paper is not None:
                        self.assertTrue(is_paper(dealing, marks, paper))
                        self.assertTrue(same_kind(paper, [int(number) for number in paper]))
                    told.add((len(marks), paper is None))
        self.assertEqual(told, {(0, False)} | {(many, none) for many in (1, 2, 3, 4) for none in (False, True)})

    def test_written_out(self):
        self.assertEqual(flip_paper(("bits", 1, 2, (1, 2, 4)), [4, 1, 2]), [4, 1, 2])
        self.assertEqual(flip_paper(("bits", 1, 2, (1, 2, 4)), [1, 3, 7]), [3, 6, 4])
        self.assertEqual(flip_paper(("bits", 1, 2, ()), []), [])
        self.assertIsNone(flip_paper(("bits", 1, 2, (1, 2, 4)), [3, 3]))

    def test_many_masks(self):
        dealing = ("bits", 4, 4, tuple(range(1, 41)))
        for marks in ([1, 2, 4, 8], [255, 128, 64, 32], [3, 5, 9, 17], [200]):
            if flip_clash(dealing, marks) is None:
                self.assertTrue(shows_flips(dealing, marks, flip_paper(dealing, marks)))


class ShowsFlipsTests(unittest.TestCase):
    def no(self, dealing, marks, thing):
        with self.subTest(dealing=dealing, marks=marks, thing=thing):
            self.assertIs(shows_flips(dealing, marks, thing), False)

    def test_what_flip_paper_tells(self):
        for dealing in ASKED:
            for marks in marks_for(dealing):
                paper = flip_paper(dealing, marks)
                self.assertIs(shows_flips(dealing, marks, paper), paper is not None)

    def test_all_lists(self):
        for dealing in ASKED:
            banks = 2 ** len(dealing[3])
            for marks in marks_for(dealing)[::29]:
                if banks ** len(marks) < 300:
                    for numbers in itertools.product(range(-1, banks + 1), repeat=len(marks)):
                        paper = is_paper(dealing, marks, numbers)
                        self.assertIs(shows_flips(dealing, marks, list(numbers)), paper)

    def test_several_papers_are_right(self):
        dealing = ("bits", 1, 2, (1, 2, 4))
        right = [[n] for n in range(8) if shows_flips(dealing, [1], [n])]
        self.assertEqual(right, [[1], [3], [5], [7]])
        self.assertIs(shows_flips(dealing, [1, 2], [5, 6]), True)
        self.assertIs(shows_flips(dealing, [1, 2], [1, 2]), True)
        self.no(dealing, [1, 2], [2, 1])
        self.no(dealing, [1, 2], [3, 2])

    def test_no_marks(self):
        for dealing in ASKED + [("bits", 0, 0, ())]:
            self.assertIs(shows_flips(dealing, [], []), True)
            for thing in [(), None, [0], [[]], [None], 0, False, ""]:
                self.no(dealing, [], thing)

    def test_marks_that_clash_have_none(self):
        dealing = ("bits", 1, 2, (1, 2, 4))
        for numbers in itertools.product(range(8), repeat=2):
            self.no(dealing, [3, 3], list(numbers))
        for numbers in itertools.product(range(8), repeat=3):
            self.no(dealing, [1, 2, 3], list(numbers))

    def test_numbers_beyond_the_banks(self):
        dealing = ("bits", 1, 2, (1, 2))
        self.assertIs(shows_flips(dealing, [1, 2], [1, 2]), True)
        self.no(dealing, [1, 2], [5, 2])
        self.no(dealing, [1, 2], [1, 4 + 2])
        self.no(dealing, [1, 2], [1 - 4, 2])
        self.no(dealing, [1, 2], [1, -2])
        self.no(dealing, [1], [10**30 + 1])

    def test_no_numbers(self):
        dealing = ("bits", 1, 2, (1, 2))
        for thing in NO_NUMBERS:
            self.no(dealing, [1, 2], [thing, 2])
            self.no(dealing, [1, 2], [1, thing])
        self.no(dealing, [1], [True])

    def test_things_that_are_none(self):
        dealing, marks = ("bits", 2, 2, (1, 2, 4, 8)), [1, 2, 4]
        self.assertIs(shows_flips(dealing, marks, [1, 2, 4]), True)
        for thing in changed([1, 2, 4]) + NO_TUPLES_OF_WORDS:
            self.no(dealing, marks, thing)


if __name__ == "__main__":
    unittest.main()

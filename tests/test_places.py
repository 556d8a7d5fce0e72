"""[4]: places.py."""

import unittest

from bankwalk.errors import NoWord
from bankwalk.places import emptied, filled, held, place_of, word_at
from tests.samples import (
    DEALINGS,
    NO_PAIRS,
    RESTS,
    TABLE,
    banks_said,
    numbered,
    places_said,
    same_kind,
    size_said,
)

GAPS = ("rests", 2, 3, 2, 5)


def worths_for(dealing):
    """Numbers for all words, below 0 and 0 among them, some alike."""
    rows, columns, _ = size_said(dealing)
    return [(number * number) % 11 * 10**15 - 3 for number in range(rows * columns)]


class PlaceOfTests(unittest.TestCase):
    def test_written_out(self):
        self.assertEqual([place_of(RESTS, (i, j)) for i in range(3) for j in range(4)], [0, 1, 2, 3, 4] * 2 + [0, 1])
        self.assertEqual([place_of(TABLE, (i, j)) for i in range(2) for j in range(3)], [0, 0, 1, 0, 1, 1])

    def test_against_the_document(self):
        for dealing in DEALINGS:
            for word, place in places_said(dealing).items():
                with self.subTest(dealing=dealing, word=word):
                    self.assertTrue(same_kind(place_of(dealing, word), place))

    def test_joined_ones_of_rests_count_words(self):
        joined = ("joined", ("rests", 1, 3, 2, 3), ("skew", 1, 1, 1, 0, 0))
        self.assertEqual([place_of(joined, (0, j)) for j in range(3)], [0, 0, 1])

    def test_banks_with_places_are_one_to_one(self):
        for dealing in DEALINGS:
            banks, places = banks_said(dealing), places_said(dealing)
            spots = [(banks[word], place_of(dealing, word)) for word in places]
            self.assertEqual(len(set(spots)), len(spots))

    def test_far_more_banks_than_words(self):
        dealing = ("bits", 1, 1, (1,) * 1000)
        self.assertEqual([place_of(dealing, (i, j)) for i in range(2) for j in range(2)], [0, 0, 1, 1])
        self.assertEqual(word_at(dealing, 2**1000 - 1, 1), (1, 1))

    def test_refused_outside_of_the_table(self):
        for dealing in DEALINGS:
            rows, columns, _ = size_said(dealing)
            for word in [(-1, 0), (0, -1), (rows, 0), (0, columns), (-1, columns), (10**20, 0)]:
                with self.subTest(dealing=dealing, word=word), self.assertRaises(NoWord):
                    place_of(dealing, word)

    def test_refused_of_no_pair_of_numbers(self):
        for dealing in DEALINGS:
            for thing in NO_PAIRS:
                with self.subTest(dealing=dealing, thing=thing), self.assertRaises(NoWord):
                    place_of(dealing, thing)


class WordAtTests(unittest.TestCase):
    def test_each_bank_and_place(self):
        for dealing in DEALINGS:
            banks, places = banks_said(dealing), places_said(dealing)
            spots = {(banks[word], places[word]): word for word in banks}
            many = size_said(dealing)[2]
            for bank in range(-2, many + 2):
                for place in range(-2, max(places.values()) + 3):
                    with self.subTest(dealing=dealing, bank=bank, place=place):
                        self.assertTrue(same_kind(word_at(dealing, bank, place), spots.get((bank, place))))

    def test_none_where_there_is_no_word(self):
        self.assertEqual(word_at(TABLE, 2, 1), (1, 2))
        self.assertIsNone(word_at(TABLE, 2, 2))
        self.assertIsNone(word_at(TABLE, 2, -1))
        self.assertIsNone(word_at(TABLE, 3, 0))
        self.assertIsNone(word_at(TABLE, -1, 0))
        self.assertIsNone(word_at(TABLE, 10**20, 0))
        self.assertIsNone(word_at(TABLE, 0, 10**20))

    def test_gaps_between_places_of_rests(self):
        self.assertEqual([word_at(GAPS, 0, place) for place in range(6)], [(0, 0), None, (0, 2), None, (1, 1), None])
        self.assertEqual([word_at(GAPS, 1, place) for place in range(6)], [(1, 2), (0, 1), None, (1, 0), None, None])


class HeldTests(unittest.TestCase):
    def test_written_out(self):
        self.assertEqual(held(TABLE), [[(0, 0), (0, 2)], [(1, 0), (1, 1)], [(0, 1), (1, 2)]])
        self.assertEqual(held(("rests", 2, 3, 2, 3)), [[(0, 0), (1, 1), (0, 2)], [(1, 0), (0, 1), (1, 2)]])
        self.assertEqual(held(("skew", 1, 2, 4, 0, 2)), [[(0, 0)], [], [(0, 1)], []])

    def test_against_the_document(self):
        for dealing in DEALINGS:
            banks, places = banks_said(dealing), places_said(dealing)
            many = size_said(dealing)[2]
            told = [sorted((word for word in banks if banks[word] == bank), key=places.get) for bank in range(many)]
            with self.subTest(dealing):
                self.assertTrue(same_kind(held(dealing), told))


class MemoryTests(unittest.TestCase):
    def test_written_out(self):
        self.assertEqual(filled(TABLE, [1, 2, 3, 4, 5, 6]), [[1, 3], [4, 5], [2, 6]])
        self.assertEqual(filled(GAPS, [1, 2, 3, 4, 5, 6]), [[1, None, 3, None, 5], [6, 2, None, 4]])
        self.assertEqual(filled(("skew", 1, 2, 4, 0, 2), [7, 0]), [[7], [], [0], []])
        self.assertEqual(filled(("rests", 2, 2, 9, 1), [5, 6, 7, 8]), [[5], [6], [7], [8], [], [], [], [], []])

    def test_none_where_no_word_is(self):
        memory = filled(("rests", 1, 5, 4, 5), [9, 8, 7, 6, 5])
        self.assertEqual(memory[:2], [[9, None, None, None, 5], [None, 8]])
        self.assertEqual(memory[2:], [[None, None, 7], [None, None, None, 6]])

    def test_against_the_document(self):
        for dealing in DEALINGS:
            worths = worths_for(dealing)
            rows, columns, many = size_said(dealing)
            banks, places = banks_said(dealing), places_said(dealing)
            told = []
            for bank in range(many):
                stands = {places[w]: worths[n] for n, w in numbered(rows, columns).items() if banks[w] == bank}
                told.append([stands.get(place) for place in range(max(stands, default=-1) + 1)])
            with self.subTest(dealing):
                self.assertTrue(same_kind(filled(dealing, worths), told))

    def test_emptied_tells_the_worths_again(self):
        for dealing in DEALINGS:
            worths = worths_for(dealing)
            with self.subTest(dealing):
                self.assertTrue(same_kind(emptied(dealing, filled(dealing, worths)), worths))

    def test_emptied_written_out(self):
        self.assertEqual(emptied(TABLE, [[1, 3], [4, 5], [2, 6]]), [1, 2, 3, 4, 5, 6])
        self.assertEqual(emptied(GAPS, [[1, None, 3, None, 5], [6, 2, None, 4]]), [1, 2, 3, 4, 5, 6])


if __name__ == "__main__":
    unittest.main()

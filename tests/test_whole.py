"""[2]: what is handed in and what is told, through all files."""

import copy
import unittest

from bankwalk.dealings import bank_of, is_dealing, size_of
from bankwalk.places import emptied, filled, held, place_of, word_at
from bankwalk.walks import cells_of, is_walk, starts, words_of
from tests.samples import DEALINGS, NO_TUPLES_OF_WORDS, WALKS, lists_in, nested, same_kind, size_said


def questions():
    """A question's def with what is handed in, for all that is told in lists or tuples."""
    asked = []
    for dealing in DEALINGS:
        rows, columns, _ = size_said(dealing)
        worths = [5 * number - 7 for number in range(rows * columns)]
        asked += [(size_of, [dealing]), (held, [dealing]), (bank_of, [dealing, (0, 0)]), (place_of, [dealing, (0, 0)])]
        asked += [(word_at, [dealing, 0, 0]), (word_at, [dealing, -1, 0])]
        asked += [(filled, [dealing, worths]), (emptied, [dealing, filled(dealing, worths)])]
        for walk in WALKS:
            asked.append((starts, [dealing, walk]))
            asked += [(words_of, [dealing, walk, start]) for start in starts(dealing, walk)[:2]]
    asked += [(cells_of, [walk]) for walk in WALKS]
    for thing in DEALINGS + WALKS + NO_TUPLES_OF_WORDS:
        asked += [(is_dealing, [thing]), (is_walk, [thing])]
    return asked


def spoil(thing):
    """Changes all lists that thing bears."""
    for some in lists_in(thing):
        some.reverse()
        some.append("spoilt")


class WholeTests(unittest.TestCase):
    def test_what_is_handed_in_stays_as_it_was(self):
        for ask, handed in questions():
            before = copy.deepcopy(handed)
            ask(*handed)
            with self.subTest(ask=ask.__name__, handed=before):
                self.assertTrue(same_kind(handed, before))

    def test_the_same_question_is_told_the_same_again(self):
        for ask, handed in questions():
            with self.subTest(ask=ask.__name__, handed=handed):
                self.assertTrue(same_kind(ask(*handed), ask(*copy.deepcopy(handed))))

    def test_told_lists_that_are_changed_change_nothing(self):
        for ask, handed in questions():
            told = ask(*handed)
            before = copy.deepcopy(told)
            spoil(told)
            with self.subTest(ask=ask.__name__, handed=handed):
                self.assertTrue(same_kind(ask(*handed), before))

    def test_handed_lists_that_are_changed_change_nothing_told(self):
        for ask, handed in questions():
            handed = copy.deepcopy(handed)
            told = ask(*handed)
            before = copy.deepcopy(told)
            spoil(handed)
            with self.subTest(ask=ask.__name__):
                self.assertTrue(same_kind(told, before))

    def test_no_two_told_lists_are_one(self):
        for ask, handed in questions():
            lists = lists_in(ask(*handed)) + lists_in(ask(*handed)) + lists_in(handed)
            with self.subTest(ask=ask.__name__, handed=handed):
                self.assertEqual(len({id(some) for some in lists}), len(lists))

    def test_what_was_told_may_be_handed_in_again(self):
        for dealing in DEALINGS:
            rows, columns, _ = size_said(dealing)
            worths = list(range(rows * columns))
            for _ in range(3):
                worths = emptied(dealing, filled(dealing, worths))
            self.assertEqual(worths, list(range(rows * columns)))
            for bank, words in enumerate(held(dealing)):
                self.assertEqual([bank_of(dealing, word) for word in words], [bank] * len(words))
                self.assertEqual([word_at(dealing, bank, place_of(dealing, word)) for word in words], words)

    def test_things_to_twenty_deep(self):
        for depth in range(1, 20):
            for thing in nested(depth):
                for asked in (thing, ("skew", thing), ("joined", thing, thing), ("cells", thing), ("table", 1, thing)):
                    with self.subTest(asked):
                        self.assertIs(is_dealing(asked), False)
                        self.assertIs(is_walk(asked), False)

    def test_joined_to_twenty_deep(self):
        thing = ("skew", 1, 1, 1, 0, 0)
        for _ in range(19):
            thing = ("joined", ("bits", 0, 0, ()), thing)
        self.assertIs(is_dealing(thing), True)


if __name__ == "__main__":
    unittest.main()

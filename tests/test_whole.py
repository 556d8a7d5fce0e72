"""[2]: what is handed in and what is told, through all files."""

import copy
import unittest

from bankwalk.anycheck import shows_least, shows_no_dealing
from bankwalk.anyhow import dealt, least_dealt, meeting
from bankwalk.clashes import clash, clear_starts, loads, shows_clash
from bankwalk.dealings import bank_of, is_dealing, size_of
from bankwalk.flips import flip_clash, flip_paper, flips, rank_of, shows_flips
from bankwalk.maskcheck import dealing_by, shows_no_image
from bankwalk.masks import image_for, least_bits
from bankwalk.places import emptied, filled, held, place_of, word_at
from bankwalk.rests import blocks, free_steps, longest, rests_of
from bankwalk.skews import least_skew, shows_no_skew, skew_for
from bankwalk.walks import cells_of, is_walk, starts, words_of
from tests.samples import DEALINGS, NO_TUPLES_OF_WORDS, TABLE, WALKS, lists_in, nested, same_kind, size_said
from tests.trees import NEED_MORE, RING, span_lists

MARKS = [[], [1], [1, 2], [3, 3], [7, 5, 1, 7]]
WALK_LISTS = [[], [("row", 3)], [("row", 2), ("column", 2), ("slant", 2)], [("block", 2, 2), ("back", 3), ("row", 1)]]


def asked_of_dealings():
    """Of each dealing, each walk of it."""
    asked = []
    for dealing in DEALINGS:
        rows, columns, _ = size_said(dealing)
        worths = [5 * number - 7 for number in range(rows * columns)]
        asked += [(size_of, [dealing]), (held, [dealing]), (bank_of, [dealing, (0, 0)]), (place_of, [dealing, (0, 0)])]
        asked += [(word_at, [dealing, 0, 0]), (word_at, [dealing, -1, 0])]
        asked += [(filled, [dealing, worths]), (emptied, [dealing, filled(dealing, worths)])]
        for walk in WALKS:
            asked += [(starts, [dealing, walk]), (clash, [dealing, walk]), (clear_starts, [dealing, walk])]
            asked.append((shows_clash, [dealing, walk, clash(dealing, walk)]))
            for start in starts(dealing, walk)[:2]:
                asked += [(words_of, [dealing, walk, start]), (loads, [dealing, walk, start])]
    return asked


def asked_of_rests():
    asked = []
    for dealing in [dealing for dealing in DEALINGS if dealing[0] in ("skew", "rests")]:
        asked += [(rests_of, [dealing, walk]) for walk in WALKS]
        asked += [(longest, [dealing, 1, -2]), (blocks, [dealing]), (free_steps, [dealing, 2])]
    return asked


def asked_of_flips():
    asked = []
    for marks in MARKS:
        asked += [(flips, [marks]), (rank_of, [marks]), (rank_of, [[0] + marks])]
        for dealing in [("bits", 1, 2, (1, 2, 4)), ("bits", 2, 2, (9, 6)), ("bits", 0, 3, ())]:
            asked += [(flip_clash, [dealing, marks]), (flip_paper, [dealing, marks])]
            asked.append((shows_flips, [dealing, marks, flip_paper(dealing, marks)]))
    return asked


def asked_of_skews():
    asked = []
    for walks in WALK_LISTS:
        asked += [(skew_for, [banks, walks]) for banks in (1, 2, 3, 5)]
        asked += [(shows_no_skew, [banks, walks, skew_for(banks, walks)[1]]) for banks in (1, 2, 3)]
        asked += [(least_skew, [walks, most]) for most in (0, 2, 7)]
    return asked


def asked_of_tables():
    asked = []
    for rows, columns, walks in [(2, 3, walks) for walks in WALK_LISTS] + [(1, 5, RING)]:
        least = least_dealt(rows, columns, walks)
        asked += [(meeting, [rows, columns, walks]), (least_dealt, [rows, columns, walks])]
        asked.append((shows_least, [rows, columns, walks, least]))
        for banks in (1, 2, 3, 4):
            told = dealt(rows, columns, banks, walks)
            asked += [(dealt, [rows, columns, banks, walks])]
            asked.append((shows_no_dealing, [rows, columns, banks, walks, told[1]]))
    return asked


def asked_of_images():
    asked = []
    for wide, spans in span_lists()[::9] + NEED_MORE:
        asked.append((least_bits, [wide, spans]))
        asked.append((dealing_by, [wide - 1, 1, least_bits(wide, spans)[1]]))
        for bits in range(4):
            asked.append((image_for, [wide, bits, spans]))
            asked.append((shows_no_image, [wide, bits, spans, image_for(wide, bits, spans)[1]]))
    return asked


def questions():
    """A question's def with what is handed in, for all that is told in lists or tuples."""
    asked = asked_of_dealings() + asked_of_rests() + asked_of_flips() + asked_of_skews()
    asked += asked_of_tables() + asked_of_images()
    asked += [(cells_of, [walk]) for walk in WALKS]
    for thing in DEALINGS + WALKS + NO_TUPLES_OF_WORDS:
        asked += [(is_dealing, [thing]), (is_walk, [thing])]
    return asked


def spoil(thing):
    """Changes all lists that thing bears."""
    for some in lists_in(thing):
        some.reverse()
        some.append("spoilt")


class WholeTests(unittest.TestCase):
    def test_what_is_handed_in_stays_as_it_was(self):
        for ask, handed in questions():
            before = copy.deepcopy(handed)
            ask(*handed)
            with self.subTest(ask=ask.__name__, handed=before):
                self.assertTrue(same_kind(handed, before))

    def test_the_same_question_is_told_the_same_again(self):
        for ask, handed in questions():
            with self.subTest(ask=ask.__name__, handed=handed):
                self.assertTrue(same_kind(ask(*handed), ask(*copy.deepcopy(handed))))

    def test_told_lists_that_are_changed_change_nothing(self):
        for ask, handed in questions():
            told = ask(*handed)
            before = copy.deepcopy(told)
            spoil(told)
            with self.subTest(ask=ask.__name__, handed=handed):
                self.assertTrue(same_kind(ask(*handed), before))

    def test_handed_lists_that_are_changed_change_nothing_told(self):
        for ask, handed in questions():
            handed = copy.deepcopy(handed)
            told = ask(*handed)
            before = copy.deepcopy(told)
            spoil(handed)
            with self.subTest(ask=ask.__name__):
                self.assertTrue(same_kind(told, before))

    def test_no_two_told_lists_are_one(self):
        for ask, handed in questions():
            lists = lists_in(ask(*handed)) + lists_in(ask(*handed)) + lists_in(handed)
            with self.subTest(ask=ask.__name__, handed=handed):
                self.assertEqual(len({id(some) for some in lists}), len(lists))

    def test_what_was_told_may_be_handed_in_again(self):
        for dealing in DEALINGS:
            rows, columns, _ = size_said(dealing)
            worths = list(range(rows * columns))
            for _ in range(3):
                worths = emptied(dealing, filled(dealing, worths))
            self.assertEqual(worths, list(range(rows * columns)))
            for bank, words in enumerate(held(dealing)):
                self.assertEqual([bank_of(dealing, word) for word in words], [bank] * len(words))
                self.assertEqual([word_at(dealing, bank, place_of(dealing, word)) for word in words], words)
            for walk in WALKS:
                for start in clear_starts(dealing, walk)[:9]:
                    self.assertEqual(max(loads(dealing, walk, start)), 1)
        for walks in WALK_LISTS:
            table = least_dealt(2, 3, walks)[0]
            self.assertEqual([clear_starts(table, walk) for walk in walks], [starts(table, walk) for walk in walks])
        for wide, spans in NEED_MORE:
            bits, numbers, _ = least_bits(wide, spans)
            turned = dealing_by(0, wide, numbers)
            self.assertEqual(size_of(turned)[2], 2**bits)
            for span in spans:
                self.assertIs(shows_flips(turned, span, flip_paper(turned, span)), True)

    def test_things_to_twenty_deep(self):
        for depth in range(1, 20):
            for thing in nested(depth):
                for asked in (thing, ("skew", thing), ("joined", thing, thing), ("cells", thing), ("table", 1, thing)):
                    with self.subTest(asked):
                        self.assertIs(is_dealing(asked), False)
                        self.assertIs(is_walk(asked), False)

    def test_what_shows_is_asked_about_to_twenty_deep(self):
        walks, dealing = [("row", 2)], ("bits", 1, 2, (1, 2, 4))
        for depth in range(1, 21):
            for thing in nested(depth):
                with self.subTest(thing):
                    self.assertIs(shows_clash(TABLE, ("row", 3), thing), False)
                    self.assertIs(shows_clash(TABLE, ("row", 3), (thing, 0, 2)), False)
                    self.assertIs(shows_clash(TABLE, ("row", 3), ((0, 0), thing, thing)), False)
                    self.assertIs(shows_no_skew(1, walks, thing), False)
                    self.assertIs(shows_no_skew(1, walks, [(thing, 0, 1)]), False)
                    self.assertIs(shows_flips(dealing, [2], thing), False)
                    self.assertIs(shows_flips(dealing, [2], [thing]), False)

    def test_what_papers_are_asked_about_to_twenty_deep(self):
        walks, table = [("step", 0, 2, 2)], ("table", 2, ((0, 0, 1),))
        self.assertIs(shows_least(1, 3, walks, (table, ("words", (0, 2)))), True)
        self.assertIs(shows_least(1, 3, walks, (table, ("cases", (((0,),),)))), True)
        for depth in range(1, 21):
            for thing in nested(depth):
                with self.subTest(thing):
                    self.assertIs(shows_no_dealing(1, 3, 2, walks, thing), False)
                    self.assertIs(shows_no_dealing(1, 3, 2, walks, ((0, thing),)), False)
                    self.assertIs(shows_least(1, 3, walks, thing), False)
                    self.assertIs(shows_least(1, 3, walks, (thing, thing)), False)
                    self.assertIs(shows_least(1, 3, walks, (table, ("words", thing))), False)
                    self.assertIs(shows_least(1, 3, walks, (table, ("cases", thing))), False)
                    self.assertIs(shows_least(1, 3, walks, (table, (thing, (0, 2)))), False)
                    self.assertIs(shows_no_image(3, 1, [[4], [2]], thing), False)
                    self.assertIs(shows_no_image(3, 1, [[4], [2]], (thing, thing)), False)

    def test_trees_to_nine_deep(self):
        tree = (0,)
        for words in range(2, 10):
            tree = (tree,)
            walks = [("step", 0, words - 1, 2)]
            self.assertIs(shows_no_dealing(1, words, 1, walks, tree), True)
            self.assertEqual(dealt(1, words, 1, walks), ("none", tree))

    def test_joined_to_twenty_deep(self):
        thing = ("skew", 1, 1, 1, 0, 0)
        for _ in range(19):
            thing = ("joined", ("bits", 0, 0, ()), thing)
        self.assertIs(is_dealing(thing), True)


if __name__ == "__main__":
    unittest.main()

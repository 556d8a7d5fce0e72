"""[2]: what is handed in and what is told, through all files."""

import copy
import unittest

from bankwalk.anycheck import shows_least, shows_no_dealing
from bankwalk.anyhow import dealt, least_dealt, meeting
from bankwalk.clashes import clash, clear_starts, loads, shows_clash
from bankwalk.dealings import bank_of, is_dealing, size_of
from bankwalk.errors import BankError, Clash, NoAsk, NoOrder, NoStart, NoWalk, NoWord
from bankwalk.flips import flip_clash, flip_paper, flips, rank_of, shows_flips
from bankwalk.joining import flat_table, split, spread
from bankwalk.lanes import handed as handed_out
from bankwalk.lanes import lanes_of, net_of
from bankwalk.maskcheck import dealing_by, shows_no_image
from bankwalk.masks import image_for, least_bits
from bankwalk.nets import is_net, led, led_back, net_for
from bankwalk.places import emptied, filled, held, place_of, word_at
from bankwalk.player import play, steady, waits_of
from bankwalk.rests import blocks, free_steps, longest, rests_of
from bankwalk.skews import least_skew, shows_no_skew, skew_for
from bankwalk.walks import cells_of, is_walk, starts, words_of
from tests.samples import (
    DEALINGS,
    JOINED,
    NO_PAIRS,
    NO_TUPLES_OF_WORDS,
    SKEW,
    TABLE,
    WALKS,
    lists_in,
    nested,
    same_kind,
    size_said,
)
from tests.trees import NEED_MORE, RING, span_lists

MARKS = [[], [1], [1, 2], [3, 3], [7, 5, 1, 7]]
WALK_LISTS = [[], [("row", 3)], [("row", 2), ("column", 2), ("slant", 2)], [("block", 2, 2), ("back", 3), ("row", 1)]]


def asked_of_dealings():
    """Of each dealing, each walk of it."""
    asked = []
    for dealing in DEALINGS:
        rows, columns, _ = size_said(dealing)
        worths = [5 * number - 7 for number in range(rows * columns)]
        asked += [(size_of, [dealing]), (held, [dealing]), (bank_of, [dealing, (0, 0)]), (place_of, [dealing, (0, 0)])]
        asked += [(word_at, [dealing, 0, 0]), (word_at, [dealing, -1, 0])]
        asked += [(filled, [dealing, worths]), (emptied, [dealing, filled(dealing, worths)])]
        for walk in WALKS:
            asked += [(starts, [dealing, walk]), (clash, [dealing, walk]), (clear_starts, [dealing, walk])]
            asked.append((shows_clash, [dealing, walk, clash(dealing, walk)]))
            for start in starts(dealing, walk)[:2]:
                asked += [(words_of, [dealing, walk, start]), (loads, [dealing, walk, start])]
    return asked


def asked_of_rests():
    asked = []
    for dealing in [dealing for dealing in DEALINGS if dealing[0] in ("skew", "rests")]:
        asked += [(rests_of, [dealing, walk]) for walk in WALKS]
        asked += [(longest, [dealing, 1, -2]), (blocks, [dealing]), (free_steps, [dealing, 2])]
    return asked


def asked_of_flips():
    asked = []
    for marks in MARKS:
        asked += [(flips, [marks]), (rank_of, [marks]), (rank_of, [[0] + marks])]
        for dealing in [("bits", 1, 2, (1, 2, 4)), ("bits", 2, 2, (9, 6)), ("bits", 0, 3, ())]:
            asked += [(flip_clash, [dealing, marks]), (flip_paper, [dealing, marks])]
            asked.append((shows_flips, [dealing, marks, flip_paper(dealing, marks)]))
    return asked


def asked_of_skews():
    asked = []
    for walks in WALK_LISTS:
        asked += [(skew_for, [banks, walks]) for banks in (1, 2, 3, 5)]
        asked += [(shows_no_skew, [banks, walks, skew_for(banks, walks)[1]]) for banks in (1, 2, 3)]
        asked += [(least_skew, [walks, most]) for most in (0, 2, 7)]
    return asked


def asked_of_tables():
    asked = []
    for rows, columns, walks in [(2, 3, walks) for walks in WALK_LISTS] + [(1, 5, RING)]:
        least = least_dealt(rows, columns, walks)
        asked += [(meeting, [rows, columns, walks]), (least_dealt, [rows, columns, walks])]
        asked.append((shows_least, [rows, columns, walks, least]))
        for banks in (1, 2, 3, 4):
            told = dealt(rows, columns, banks, walks)
            asked += [(dealt, [rows, columns, banks, walks])]
            asked.append((shows_no_dealing, [rows, columns, banks, walks, told[1]]))
    return asked


def asked_of_images():
    asked = []
    for wide, spans in span_lists()[::9] + NEED_MORE:
        asked.append((least_bits, [wide, spans]))
        asked.append((dealing_by, [wide - 1, 1, least_bits(wide, spans)[1]]))
        for bits in range(4):
            asked.append((image_for, [wide, bits, spans]))
            asked.append((shows_no_image, [wide, bits, spans, image_for(wide, bits, spans)[1]]))
    return asked


def asked_of_joined():
    asked = [(flat_table, [dealing]) for dealing in DEALINGS]
    asked += [(spread, [one, other, 16, 16]) for one in WALKS[:9] for other in WALKS[:9]]
    return asked + [(split, [dealing, (0, 1)]) for dealing in DEALINGS if dealing[0] == "joined"]


def asked_of_nets():
    asked = []
    for order in [(1, 0), (2, 0, 3, 1), (7, 1, 5, 3, 6, 0, 4, 2), tuple(k ^ 5 for k in range(16))]:
        net, lanes = net_for(order), len(order)
        asked += [(net_for, [order]), (is_net, [net, lanes]), (is_net, [[net], lanes])]
        asked += [(ask, [net, [f"thing {k}" for k in range(lanes)]]) for ask in (led, led_back)]
    return asked


def asked_of_lanes():
    asked = []
    for dealing in [dealing for dealing in DEALINGS if size_said(dealing)[2] <= 16]:
        rows, columns, _ = size_said(dealing)
        memory = filled(dealing, list(range(rows * columns)))
        for walk in WALKS:
            asked += [(ask, [dealing, walk, start]) for ask in (lanes_of, net_of) for start in starts(dealing, walk)[:2]]
            asked += [(handed_out, [dealing, walk, start, memory]) for start in clear_starts(dealing, walk)[:2]]
    return asked


def asked_of_player():
    asked = []
    for dealing in DEALINGS:
        word, row = (0, 0), starts(dealing, ("row", 1))
        for hold in (1, 3):
            asked.append((play, [dealing, [[word, word], [], row[:9], [word]], hold]))
            asked += [(steady, [dealing, walk, starts(dealing, walk)[:4], hold]) for walk in WALKS]
        asked += [(waits_of, [dealing, walk, start]) for walk in WALKS for start in starts(dealing, walk)[:2]]
    return asked


def refusals():
    """What is refused: the class, the question's def, and what is handed in."""
    row, worths = ("row", 3), [5, 6, 7, 8, 9, 10]
    memory = filled(TABLE, worths)
    refused = [(NoWalk, spread, [("row", 2), ("row", 3), 1, 2])]
    refused += [(NoOrder, net_for, [order]) for order in [[0, 1], (0, 1, 2), (0, 0), (False, True), "01", ([0], [1])]]
    refused += [(Clash, handed_out, [TABLE, row, start, memory]) for start in ((0, 0), (1, 0))]
    refused += [(NoAsk, play, [TABLE, [[(0, 0)], [(1, 2), thing]], 2]) for thing in NO_PAIRS + [(2, 0), (0, 3)]]
    for thing in NO_PAIRS + [(-1, 0), (0, 3), (2, 0)]:
        refused += [(NoWord, ask, [TABLE, thing]) for ask in (bank_of, place_of)]
        refused += [(NoStart, ask, [TABLE, row, thing]) for ask in (words_of, loads, lanes_of, net_of, waits_of)]
        refused.append((NoStart, handed_out, [TABLE, row, thing, memory]))
        refused.append((NoStart, steady, [TABLE, row, [(0, 0), thing], 2]))
    return refused


def questions():
    """A question's def with what is handed in, for all that is told in lists or tuples."""
    asked = asked_of_dealings() + asked_of_rests() + asked_of_flips() + asked_of_skews()
    asked += asked_of_tables() + asked_of_images() + asked_of_joined() + asked_of_nets()
    asked += asked_of_lanes() + asked_of_player()
    asked += [(cells_of, [walk]) for walk in WALKS]
    for thing in DEALINGS + WALKS + NO_TUPLES_OF_WORDS:
        asked += [(is_dealing, [thing]), (is_walk, [thing])]
    return asked


def spoil(thing):
    """Changes all lists that thing bears."""
    for some in lists_in(thing):
        some.reverse()
        some.append("spoilt")


class WholeTests(unittest.TestCase):
    def test_what_is_handed_in_stays_as_it_was(self):
        for ask, handed in questions():
            before = copy.deepcopy(handed)
            ask(*handed)
            with self.subTest(ask=ask.__name__, handed=before):
                self.assertTrue(same_kind(handed, before))

    def test_the_same_question_is_told_the_same_again(self):
        for ask, handed in questions():
            with self.subTest(ask=ask.__name__, handed=handed):
                self.assertTrue(same_kind(ask(*handed), ask(*copy.deepcopy(handed))))

    def test_told_lists_that_are_changed_change_nothing(self):
        for ask, handed in questions():
            told = ask(*handed)
            before = copy.deepcopy(told)
            spoil(told)
            with self.subTest(ask=ask.__name__, handed=handed):
                self.assertTrue(same_kind(ask(*handed), before))

    def test_handed_lists_that_are_changed_change_nothing_told(self):
        for ask, handed in questions():
            handed = copy.deepcopy(handed)
            told = ask(*handed)
            before = copy.deepcopy(told)
            spoil(handed)
            with self.subTest(ask=ask.__name__):
                self.assertTrue(same_kind(told, before))

    def test_no_two_told_lists_are_one(self):
        for ask, handed in questions():
            lists = lists_in(ask(*handed)) + lists_in(ask(*handed)) + lists_in(handed)
            with self.subTest(ask=ask.__name__, handed=handed):
                self.assertEqual(len({id(some) for some in lists}), len(lists))

    def test_a_refusal_changes_nothing(self):
        for kind, ask, handed in refusals():
            before = copy.deepcopy(handed)
            with self.subTest(ask=ask.__name__, handed=before):
                fields = []
                for _ in range(2):
                    with self.assertRaises(kind) as caught:
                        ask(*handed)
                    self.assertIs(type(caught.exception), kind)
                    fields.append(vars(caught.exception))
                    self.assertTrue(same_kind(handed, before))
                self.assertEqual(fields[0], fields[1])
                self.assertEqual(kind.__bases__, (BankError,))

    def test_what_is_asked_behind_a_refusal_is_told_the_same(self):
        asked = questions()[::11]
        told = [ask(*handed) for ask, handed in asked]
        for kind, ask, handed in refusals():
            with self.assertRaises(kind):
                ask(*handed)
        for (ask, handed), before in zip(asked, told):
            with self.subTest(ask=ask.__name__, handed=handed):
                self.assertTrue(same_kind(ask(*handed), before))

    def test_what_was_told_of_joined_ones_and_nets_may_be_handed_in_again(self):
        for dealing in DEALINGS:
            flat = flat_table(dealing)
            for walk in WALKS:
                self.assertEqual(clash(flat, walk), clash(dealing, walk))
        walk = spread(("row", 2), ("column", 2), 3, 2)
        self.assertEqual(len(words_of(JOINED, walk, (0, 0))), 4)
        memory = filled(SKEW, list(range(20)))
        for start in clear_starts(SKEW, ("row", 3)):
            net, order = net_of(SKEW, ("row", 3), start), lanes_of(SKEW, ("row", 3), start)
            self.assertEqual(led_back(net, led(net_for(order), list("abcdefgh"))), list("abcdefgh"))
            self.assertEqual(memory, filled(SKEW, emptied(SKEW, memory)))
            self.assertEqual(len(handed_out(SKEW, ("row", 3), start, memory)), 3)
        beats, _, log = play(SKEW, [words_of(SKEW, ("row", 3), start) for start in starts(SKEW, ("row", 3))], 2)
        again = play(SKEW, [[word for at, _, word in log if at == beat] for beat in range(beats)], 1)
        self.assertEqual([word for _, _, word in again[2]], [word for _, _, word in log])

    def test_what_was_told_may_be_handed_in_again(self):
        for dealing in DEALINGS:
            rows, columns, _ = size_said(dealing)
            worths = list(range(rows * columns))
            for _ in range(3):
                worths = emptied(dealing, filled(dealing, worths))
            self.assertEqual(worths, list(range(rows * columns)))
            for bank, words in enumerate(held(dealing)):
                self.assertEqual([bank_of(dealing, word) for word in words], [bank] * len(words))
                self.assertEqual([word_at(dealing, bank, place_of(dealing, word)) for word in words], words)
            for walk in WALKS:
                for start in clear_starts(dealing, walk)[:9]:
                    self.assertEqual(max(loads(dealing, walk, start)), 1)
        for walks in WALK_LISTS:
            table = least_dealt(2, 3, walks)[0]
            self.assertEqual([clear_starts(table, walk) for walk in walks], [starts(table, walk) for walk in walks])
        for wide, spans in NEED_MORE:
            bits, numbers, _ = least_bits(wide, spans)
            turned = dealing_by(0, wide, numbers)
            self.assertEqual(size_of(turned)[2], 2**bits)
            for span in spans:
                self.assertIs(shows_flips(turned, span, flip_paper(turned, span)), True)

    def test_things_to_twenty_deep(self):
        for depth in range(1, 20):
            for thing in nested(depth):
                for asked in (thing, ("skew", thing), ("joined", thing, thing), ("cells", thing), ("table", 1, thing)):
                    with self.subTest(asked):
                        self.assertIs(is_dealing(asked), False)
                        self.assertIs(is_walk(asked), False)

    def test_what_shows_is_asked_about_to_twenty_deep(self):
        walks, dealing = [("row", 2)], ("bits", 1, 2, (1, 2, 4))
        for depth in range(1, 21):
            for thing in nested(depth):
                with self.subTest(thing):
                    self.assertIs(shows_clash(TABLE, ("row", 3), thing), False)
                    self.assertIs(shows_clash(TABLE, ("row", 3), (thing, 0, 2)), False)
                    self.assertIs(shows_clash(TABLE, ("row", 3), ((0, 0), thing, thing)), False)
                    self.assertIs(shows_no_skew(1, walks, thing), False)
                    self.assertIs(shows_no_skew(1, walks, [(thing, 0, 1)]), False)
                    self.assertIs(shows_flips(dealing, [2], thing), False)
                    self.assertIs(shows_flips(dealing, [2], [thing]), False)

    def test_what_papers_are_asked_about_to_twenty_deep(self):
        walks, table = [("step", 0, 2, 2)], ("table", 2, ((0, 0, 1),))
        self.assertIs(shows_least(1, 3, walks, (table, ("words", (0, 2)))), True)
        self.assertIs(shows_least(1, 3, walks, (table, ("cases", (((0,),),)))), True)
        for depth in range(1, 21):
            for thing in nested(depth):
                with self.subTest(thing):
                    self.assertIs(shows_no_dealing(1, 3, 2, walks, thing), False)
                    self.assertIs(shows_no_dealing(1, 3, 2, walks, ((0, thing),)), False)
                    self.assertIs(shows_least(1, 3, walks, thing), False)
                    self.assertIs(shows_least(1, 3, walks, (thing, thing)), False)
                    self.assertIs(shows_least(1, 3, walks, (table, ("words", thing))), False)
                    self.assertIs(shows_least(1, 3, walks, (table, ("cases", thing))), False)
                    self.assertIs(shows_least(1, 3, walks, (table, (thing, (0, 2)))), False)
                    self.assertIs(shows_no_image(3, 1, [[4], [2]], thing), False)
                    self.assertIs(shows_no_image(3, 1, [[4], [2]], (thing, thing)), False)

    def test_trees_to_nine_deep(self):
        tree = (0,)
        for words in range(2, 10):
            tree = (tree,)
            walks = [("step", 0, words - 1, 2)]
            self.assertIs(shows_no_dealing(1, words, 1, walks, tree), True)
            self.assertEqual(dealt(1, words, 1, walks), ("none", tree))

    def test_joined_to_twenty_deep(self):
        thing = ("skew", 1, 1, 1, 0, 0)
        for _ in range(19):
            thing = ("joined", ("bits", 0, 0, ()), thing)
        self.assertIs(is_dealing(thing), True)


if __name__ == "__main__":
    unittest.main()

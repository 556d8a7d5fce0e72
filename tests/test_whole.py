"""[1] and [2]: what is promised of the whole, and what is handed in and told, through all files."""

import copy
import unittest

from bankwalk.anycheck import shows_least, shows_no_dealing
from bankwalk.anyhow import dealt, least_dealt, meeting
from bankwalk.clashes import clash, clear_starts, loads, shows_clash
from bankwalk.dealings import bank_of, is_dealing, size_of
from bankwalk.desk import told_by
from bankwalk.errors import (
    BadRow,
    BadText,
    BankError,
    Clash,
    NoAsk,
    NoOrder,
    NoStart,
    NotSquare,
    NoWalk,
    NoWord,
)
from bankwalk.flips import flip_clash, flip_paper, flips, rank_of, shows_flips
from bankwalk.joining import flat_table, split, spread
from bankwalk.lanes import handed as handed_out
from bankwalk.lanes import lanes_of, net_of
from bankwalk.maskcheck import dealing_by, shows_no_image
from bankwalk.masks import image_for, least_bits
from bankwalk.nets import is_net, led, led_back, net_for
from bankwalk.places import emptied, filled, held, place_of, word_at
from bankwalk.player import play, steady, waits_of
from bankwalk.rests import blocks, free_steps, longest, rests_of
from bankwalk.skews import least_skew, shows_no_skew, skew_for
from bankwalk.texts import dealing_of, dealing_text, walk_of, walk_text
from bankwalk.turncheck import shows_plan
from bankwalk.turning import turn_plan, turned
from bankwalk.walks import cells_of, is_walk, starts, words_of
from tests.samples import (
    DEALINGS,
    JOINED,
    NO_PAIRS,
    NO_TUPLES_OF_WORDS,
    SKEW,
    TABLE,
    WALKS,
    alike_said,
    banks_said,
    lists_in,
    nested,
    places_said,
    same_kind,
    size_said,
    words_said,
)
from tests.test_player import played
from tests.test_turning import OBLONGS, SQUARES, turned_said
from tests.trees import NEED_MORE, RING, span_lists

SHEET = """deal skew 4 4 5 1 2
bank 1 2
word 0 1
clash block 2 3

starts block 2 3
rests row 4
load 0 0 block 2 3
net 1 0 row 3
longest 1 1
plan
deal bits 0 0
plan
bank 0 1"""

MARKS = [[], [1], [1, 2], [3, 3], [7, 5, 1, 7]]
WALK_LISTS = [[], [("row", 3)], [("row", 2), ("column", 2), ("slant", 2)], [("block", 2, 2), ("back", 3), ("row", 1)]]


def asked_of_dealings():
    """Of each dealing, each walk of it."""
    asked = []
    for dealing in DEALINGS:
        rows, columns, _ = size_said(dealing)
        worths = [5 * number - 7 for number in range(rows * columns)]
        asked += [(size_of, [dealing]), (held, [dealing]), (bank_of, [dealing, (0, 0)]), (place_of, [dealing, (0, 0)])]
        asked += [(word_at, [dealing, 0, 0]), (word_at, [dealing, -1, 0])]
        asked += [(filled, [dealing, worths]), (emptied, [dealing, filled(dealing, worths)])]
        for walk in WALKS:
            asked += [(starts, [dealing, walk]), (clash, [dealing, walk]), (clear_starts, [dealing, walk])]
            asked.append((shows_clash, [dealing, walk, clash(dealing, walk)]))
            for start in starts(dealing, walk)[:2]:
                asked += [(words_of, [dealing, walk, start]), (loads, [dealing, walk, start])]
    return asked


def asked_of_rests():
    asked = []
    for dealing in [dealing for dealing in DEALINGS if dealing[0] in ("skew", "rests")]:
        asked += [(rests_of, [dealing, walk]) for walk in WALKS]
        asked += [(longest, [dealing, 1, -2]), (blocks, [dealing]), (free_steps, [dealing, 2])]
    return asked


def asked_of_flips():
    asked = []
    for marks in MARKS:
        asked += [(flips, [marks]), (rank_of, [marks]), (rank_of, [[0] + marks])]
        for dealing in [("bits", 1, 2, (1, 2, 4)), ("bits", 2, 2, (9, 6)), ("bits", 0, 3, ())]:
            asked += [(flip_clash, [dealing, marks]), (flip_paper, [dealing, marks])]
            asked.append((shows_flips, [dealing, marks, flip_paper(dealing, marks)]))
    return asked


def asked_of_skews():
    asked = []
    for walks in WALK_LISTS:
        asked += [(skew_for, [banks, walks]) for banks in (1, 2, 3, 5)]
        asked += [(shows_no_skew, [banks, walks, skew_for(banks, walks)[1]]) for banks in (1, 2, 3)]
        asked += [(least_skew, [walks, most]) for most in (0, 2, 7)]
    return asked


def asked_of_tables():
    asked = []
    for rows, columns, walks in [(2, 3, walks) for walks in WALK_LISTS] + [(1, 5, RING)]:
        least = least_dealt(rows, columns, walks)
        asked += [(meeting, [rows, columns, walks]), (least_dealt, [rows, columns, walks])]
        asked.append((shows_least, [rows, columns, walks, least]))
        for banks in (1, 2, 3, 4):
            told = dealt(rows, columns, banks, walks)
            asked += [(dealt, [rows, columns, banks, walks])]
            asked.append((shows_no_dealing, [rows, columns, banks, walks, told[1]]))
    return asked


def asked_of_images():
    asked = []
    for wide, spans in span_lists()[::9] + NEED_MORE:
        asked.append((least_bits, [wide, spans]))
        asked.append((dealing_by, [wide - 1, 1, least_bits(wide, spans)[1]]))
        for bits in range(4):
            asked.append((image_for, [wide, bits, spans]))
            asked.append((shows_no_image, [wide, bits, spans, image_for(wide, bits, spans)[1]]))
    return asked


def asked_of_joined():
    asked = [(flat_table, [dealing]) for dealing in DEALINGS]
    asked += [(spread, [one, other, 16, 16]) for one in WALKS[:9] for other in WALKS[:9]]
    return asked + [(split, [dealing, (0, 1)]) for dealing in DEALINGS if dealing[0] == "joined"]


def asked_of_nets():
    asked = []
    for order in [(1, 0), (2, 0, 3, 1), (7, 1, 5, 3, 6, 0, 4, 2), tuple(k ^ 5 for k in range(16))]:
        net, lanes = net_for(order), len(order)
        asked += [(net_for, [order]), (is_net, [net, lanes]), (is_net, [[net], lanes])]
        asked += [(ask, [net, [f"thing {k}" for k in range(lanes)]]) for ask in (led, led_back)]
    return asked


def asked_of_lanes():
    asked = []
    for dealing in [dealing for dealing in DEALINGS if size_said(dealing)[2] <= 16]:
        rows, columns, _ = size_said(dealing)
        memory = filled(dealing, list(range(rows * columns)))
        for walk in WALKS:
            asked += [(ask, [dealing, walk, start]) for ask in (lanes_of, net_of) for start in starts(dealing, walk)[:2]]
            asked += [(handed_out, [dealing, walk, start, memory]) for start in clear_starts(dealing, walk)[:2]]
    return asked


def asked_of_player():
    asked = []
    for dealing in DEALINGS:
        word, row = (0, 0), starts(dealing, ("row", 1))
        for hold in (1, 3):
            asked.append((play, [dealing, [[word, word], [], row[:9], [word]], hold]))
            asked += [(steady, [dealing, walk, starts(dealing, walk)[:4], hold]) for walk in WALKS]
        asked += [(waits_of, [dealing, walk, start]) for walk in WALKS for start in starts(dealing, walk)[:2]]
    return asked


def asked_of_turning():
    asked = [(shows_plan, [dealing, thing]) for dealing in OBLONGS[:4] for thing in ([], [[(0, 1)]], None)]
    for dealing in SQUARES:
        plan, memory = turn_plan(dealing), filled(dealing, list(range(size_said(dealing)[0] ** 2)))
        asked += [(turn_plan, [dealing]), (turned, [dealing, plan, memory]), (shows_plan, [dealing, plan])]
        asked += [(turned, [dealing, [[]], memory]), (shows_plan, [dealing, plan + [[]]]), (shows_plan, [dealing, [plan]])]
    return asked


def asked_of_texts():
    asked = [(told_by, [SHEET]), (told_by, ["deal bits 0 0"])]
    for dealing in DEALINGS:
        asked += [(dealing_text, [dealing]), (dealing_of, [dealing_text(dealing)])]
    for walk in WALKS:
        asked += [(walk_text, [walk]), (walk_of, [walk_text(walk)])]
    return asked


def refusals():
    """What is refused: the class, the question's def, and what is handed in."""
    row, worths = ("row", 3), [5, 6, 7, 8, 9, 10]
    memory = filled(TABLE, worths)
    refused = [(NoWalk, spread, [("row", 2), ("row", 3), 1, 2])]
    refused += [(NoOrder, net_for, [order]) for order in [[0, 1], (0, 1, 2), (0, 0), (False, True), "01", ([0], [1])]]
    refused += [(Clash, handed_out, [TABLE, row, start, memory]) for start in ((0, 0), (1, 0))]
    refused += [(NoAsk, play, [TABLE, [[(0, 0)], [(1, 2), thing]], 2]) for thing in NO_PAIRS + [(2, 0), (0, 3)]]
    for thing in NO_PAIRS + [(-1, 0), (0, 3), (2, 0)]:
        refused += [(NoWord, ask, [TABLE, thing]) for ask in (bank_of, place_of)]
        refused += [(NoStart, ask, [TABLE, row, thing]) for ask in (words_of, loads, lanes_of, net_of, waits_of)]
        refused.append((NoStart, handed_out, [TABLE, row, thing, memory]))
        refused.append((NoStart, steady, [TABLE, row, [(0, 0), thing], 2]))
    refused += [(NotSquare, turn_plan, [TABLE]), (NotSquare, turned, [TABLE, [[(0, 1)]], memory])]
    for text in ("", "skew 1 1 0 0 0", "row 0", "joined ( bits 0 0 )", "cells 0 0 / 0 0", "skew 01 1 1 0 0"):
        refused += [(BadText, dealing_of, [text]), (BadText, walk_of, [text])]
    refused += [(BadRow, told_by, [text]) for text in ("", "\n", "plan", SHEET + "\nplan 1", "\n" + SHEET + "\n ")]
    return refused


def questions():
    """A question's def with what is handed in, for all that is told in lists or tuples."""
    asked = asked_of_dealings() + asked_of_rests() + asked_of_flips() + asked_of_skews()
    asked += asked_of_tables() + asked_of_images() + asked_of_joined() + asked_of_nets()
    asked += asked_of_lanes() + asked_of_player() + asked_of_turning() + asked_of_texts()
    asked += [(cells_of, [walk]) for walk in WALKS]
    for thing in DEALINGS + WALKS + NO_TUPLES_OF_WORDS:
        asked += [(is_dealing, [thing]), (is_walk, [thing])]
    return asked


def spoil(thing):
    """Changes all lists that thing bears."""
    for some in lists_in(thing):
        some.reverse()
        some.append("spoilt")


class PromiseTests(unittest.TestCase):
    """[1], sentence by sentence."""

    def test_words_and_banks_with_places_are_one_to_one(self):
        for dealing in DEALINGS + SQUARES:
            rows, columns, banks = size_of(dealing)
            spots = {}
            for word in [(i, j) for i in range(rows) for j in range(columns)]:
                bank, place = bank_of(dealing, word), place_of(dealing, word)
                self.assertTrue(0 <= bank < banks and place >= 0)
                self.assertNotIn((bank, place), spots)
                spots[(bank, place)] = word
            self.assertEqual(spots, {(banks_said(dealing)[w], p): w for w, p in places_said(dealing).items()})
            for bank in {0, banks - 1, banks // 2}:
                for place in range(max(place for _, place in spots) + 2):
                    self.assertEqual(word_at(dealing, bank, place), spots.get((bank, place)))
            self.assertEqual(sorted(word for words in held(dealing) for word in words), sorted(spots.values()))

    def test_clear_walks_and_clashing_ones(self):
        for dealing in DEALINGS + SQUARES:
            banks = banks_said(dealing)
            for walk in WALKS:
                told = clash(dealing, walk)
                with self.subTest(dealing=dealing, walk=walk):
                    if told is None:
                        for start, words in words_said(dealing, walk).items():
                            self.assertEqual(alike_said([banks[word] for word in words]), [])
                            self.assertEqual(words_of(dealing, walk, start), words)
                    else:
                        start, k, l = told
                        words = words_said(dealing, walk)[start]
                        self.assertNotEqual(words[k], words[l])
                        self.assertEqual(banks[words[k]], banks[words[l]])

    def test_clear_by_the_dealing_alone(self):
        for dealing in [dealing for dealing in DEALINGS if dealing[0] in ("skew", "rests")]:
            for walk in WALKS:
                if starts(dealing, walk):
                    unlike = len(set(rests_of(dealing, walk))) == len(rests_of(dealing, walk))
                    self.assertEqual(clash(dealing, walk) is None, unlike)
            for down, along in free_steps(dealing, 3)[:40]:
                self.assertIsNone(clash(dealing, ("step", down, along, 3)))

    def test_dealings_that_are_found_serve_and_papers_bar(self):
        for walks in WALK_LISTS:
            for banks in (1, 2, 3, 4, 5):
                told = skew_for(banks, walks)
                if told[0] == "skew":
                    for walk in walks:
                        self.assertIsNone(clash(("skew", 16, 16, banks) + told[1:], walk))
                else:
                    self.assertIs(shows_no_skew(banks, walks, told[1]), True)
                told = dealt(2, 3, banks, walks)
                if told[0] == "table":
                    self.assertEqual([clash(told, walk) for walk in walks], [None] * len(walks))
                else:
                    self.assertIs(shows_no_dealing(2, 3, banks, walks, told[1]), True)
            banks, a, b, bars = least_skew(walks, 16)
            self.assertEqual([shows_no_skew(at + 1, walks, bar) for at, bar in enumerate(bars)], [True] * (banks - 1))
            least = least_dealt(2, 3, walks)
            self.assertIs(shows_least(2, 3, walks, least), True)
            fewer = [dealt(2, 3, banks, walks)[0] for banks in range(1, least[0][1])]
            self.assertEqual(fewer, ["none"] * (least[0][1] - 1))

    def test_images_that_are_found_serve_and_papers_bar(self):
        for wide, spans in span_lists()[::5] + NEED_MORE:
            bits, numbers, paper = least_bits(wide, spans)
            for span in spans:
                self.assertIsNone(flip_clash(dealing_by(0, wide, numbers), span))
            for fewer in range(bits):
                self.assertIs(shows_no_image(wide, fewer, spans, image_for(wide, fewer, spans)[1]), True)

    def test_nets_lead_words_to_their_banks_and_back(self):
        for dealing in [dealing for dealing in DEALINGS + SQUARES if size_said(dealing)[2] <= 16]:
            banks = banks_said(dealing)
            for walk in WALKS:
                for start in clear_starts(dealing, walk)[:5]:
                    words, net = words_of(dealing, walk, start), net_of(dealing, walk, start)
                    lanes = len(lanes_of(dealing, walk, start))
                    self.assertIs(is_net(net, lanes), True)
                    out = led(net, words + [None] * (lanes - len(words)))
                    self.assertEqual([banks[word] for word in out if word is not None], sorted(banks[w] for w in words))
                    self.assertEqual([out[banks[word]] for word in words], words)
                    self.assertEqual(led_back(net, out)[: len(words)], words)

    def test_waits_are_those_that_are_told(self):
        for dealing in DEALINGS:
            for walk in WALKS:
                for start in starts(dealing, walk)[:2]:
                    words = words_of(dealing, walk, start)
                    self.assertEqual(waits_of(dealing, walk, start), played(dealing, [words], 1)[1])
                    self.assertEqual(waits_of(dealing, walk, start) == 0, start in clear_starts(dealing, walk))
                    self.assertEqual(steady(dealing, walk, [start, start], 2), played(dealing, [words] * 2, 2)[:2])

    def test_tables_turned_in_place_are_turned(self):
        for dealing in SQUARES:
            worths, plan = list(range(size_said(dealing)[0] ** 2)), turn_plan(dealing)
            self.assertIs(shows_plan(dealing, plan), True)
            told = emptied(dealing, turned(dealing, plan, filled(dealing, worths)))
            self.assertEqual(told, turned_said(dealing, worths))


class WholeTests(unittest.TestCase):
    def test_every_question_of_the_interface_is_asked(self):
        names = """is_dealing size_of bank_of place_of word_at held filled emptied is_walk cells_of starts words_of clash
        shows_clash loads clear_starts rests_of longest blocks free_steps flips rank_of flip_clash flip_paper shows_flips
        skew_for shows_no_skew least_skew meeting dealt least_dealt shows_no_dealing shows_least image_for least_bits
        shows_no_image dealing_by spread split flat_table is_net led led_back net_for lanes_of net_of handed play waits_of
        steady turn_plan turned shows_plan dealing_text walk_text dealing_of walk_of told_by""".split()
        self.assertEqual({ask.__name__ for ask, _ in questions()}, set(names))

    def test_every_refusal_is_asked_for(self):
        classes = {NoWord, NoStart, NoWalk, NoOrder, Clash, NotSquare, BadText, NoAsk, BadRow}
        self.assertEqual({kind for kind, _, _ in refusals()}, classes)
        self.assertEqual(classes, set(BankError.__subclasses__()))

    def test_what_is_so_is_told_by_true_or_false(self):
        for ask, handed in questions():
            if ask.__name__.startswith(("is_", "shows_")):
                self.assertIs(type(ask(*handed)), bool, ask.__name__)

    def test_what_is_handed_in_stays_as_it_was(self):
        for ask, handed in questions():
            before = copy.deepcopy(handed)
            ask(*handed)
            with self.subTest(ask=ask.__name__, handed=before):
                self.assertTrue(same_kind(handed, before))

    def test_the_same_question_is_told_the_same_again(self):
        for ask, handed in questions():
            with self.subTest(ask=ask.__name__, handed=handed):
                self.assertTrue(same_kind(ask(*handed), ask(*copy.deepcopy(handed))))

    def test_told_lists_that_are_changed_change_nothing(self):
        for ask, handed in questions():
            told = ask(*handed)
            before = copy.deepcopy(told)
            spoil(told)
            with self.subTest(ask=ask.__name__, handed=handed):
                self.assertTrue(same_kind(ask(*handed), before))

    def test_handed_lists_that_are_changed_change_nothing_told(self):
        for ask, handed in questions():
            handed = copy.deepcopy(handed)
            told = ask(*handed)
            before = copy.deepcopy(told)
            spoil(handed)
            with self.subTest(ask=ask.__name__):
                self.assertTrue(same_kind(told, before))

    def test_no_two_told_lists_are_one(self):
        for ask, handed in questions():
            lists = lists_in(ask(*handed)) + lists_in(ask(*handed)) + lists_in(handed)
            with self.subTest(ask=ask.__name__, handed=handed):
                self.assertEqual(len({id(some) for some in lists}), len(lists))

    def test_a_refusal_changes_nothing(self):
        for kind, ask, handed in refusals():
            before = copy.deepcopy(handed)
            with self.subTest(ask=ask.__name__, handed=before):
                fields = []
                for _ in range(2):
                    with self.assertRaises(kind) as caught:
                        ask(*handed)
                    self.assertIs(type(caught.exception), kind)
                    fields.append(vars(caught.exception))
                    self.assertTrue(same_kind(handed, before))
                self.assertEqual(fields[0], fields[1])
                self.assertEqual(kind.__bases__, (BankError,))

    def test_what_is_asked_behind_a_refusal_is_told_the_same(self):
        asked = questions()[::11]
        told = [ask(*handed) for ask, handed in asked]
        for kind, ask, handed in refusals():
            with self.assertRaises(kind):
                ask(*handed)
        for (ask, handed), before in zip(asked, told):
            with self.subTest(ask=ask.__name__, handed=handed):
                self.assertTrue(same_kind(ask(*handed), before))

    def test_what_was_told_of_joined_ones_and_nets_may_be_handed_in_again(self):
        for dealing in DEALINGS:
            flat = flat_table(dealing)
            for walk in WALKS:
                self.assertEqual(clash(flat, walk), clash(dealing, walk))
        walk = spread(("row", 2), ("column", 2), 3, 2)
        self.assertEqual(len(words_of(JOINED, walk, (0, 0))), 4)
        memory = filled(SKEW, list(range(20)))
        for start in clear_starts(SKEW, ("row", 3)):
            net, order = net_of(SKEW, ("row", 3), start), lanes_of(SKEW, ("row", 3), start)
            self.assertEqual(led_back(net, led(net_for(order), list("abcdefgh"))), list("abcdefgh"))
            self.assertEqual(memory, filled(SKEW, emptied(SKEW, memory)))
            self.assertEqual(len(handed_out(SKEW, ("row", 3), start, memory)), 3)
        beats, _, log = play(SKEW, [words_of(SKEW, ("row", 3), start) for start in starts(SKEW, ("row", 3))], 2)
        again = play(SKEW, [[word for at, _, word in log if at == beat] for beat in range(beats)], 1)
        self.assertEqual([word for _, _, word in again[2]], [word for _, _, word in log])

    def test_what_was_told_of_plans_and_texts_may_be_handed_in_again(self):
        for dealing in SQUARES:
            plan = turn_plan(dealing)
            memory = filled(dealing, list(range(size_said(dealing)[0] ** 2)))
            once = turned(dealing, plan, memory)
            self.assertEqual(turned(dealing, plan, once), memory)
            self.assertEqual(plan, turn_plan(dealing_of(dealing_text(dealing))))
        for walk in WALKS:
            again = walk_of(walk_text(walk_of(walk_text(walk))))
            self.assertEqual(cells_of(again), cells_of(walk))
        for dealing in DEALINGS:
            sheet = f"deal {dealing_text(flat_table(dealing))}"
            if len(sheet) < 3000 and size_said(dealing)[2] < 10000 and dealing[0] != "rests":
                told = told_by(f"deal {dealing_text(dealing)}\nbank 0 0\nclash row 2\nplan")
                self.assertEqual(told_by(f"{sheet}\nbank 0 0\nclash row 2\nplan"), told)

    def test_what_was_told_may_be_handed_in_again(self):
        for dealing in DEALINGS:
            rows, columns, _ = size_said(dealing)
            worths = list(range(rows * columns))
            for _ in range(3):
                worths = emptied(dealing, filled(dealing, worths))
            self.assertEqual(worths, list(range(rows * columns)))
            for bank, words in enumerate(held(dealing)):
                self.assertEqual([bank_of(dealing, word) for word in words], [bank] * len(words))
                self.assertEqual([word_at(dealing, bank, place_of(dealing, word)) for word in words], words)
            for walk in WALKS:
                for start in clear_starts(dealing, walk)[:9]:
                    self.assertEqual(max(loads(dealing, walk, start)), 1)
        for walks in WALK_LISTS:
            table = least_dealt(2, 3, walks)[0]
            self.assertEqual([clear_starts(table, walk) for walk in walks], [starts(table, walk) for walk in walks])
        for wide, spans in NEED_MORE:
            bits, numbers, _ = least_bits(wide, spans)
            turned = dealing_by(0, wide, numbers)
            self.assertEqual(size_of(turned)[2], 2**bits)
            for span in spans:
                self.assertIs(shows_flips(turned, span, flip_paper(turned, span)), True)

    def test_things_to_twenty_deep(self):
        for depth in range(1, 20):
            for thing in nested(depth):
                for asked in (thing, ("skew", thing), ("joined", thing, thing), ("cells", thing), ("table", 1, thing)):
                    with self.subTest(asked):
                        self.assertIs(is_dealing(asked), False)
                        self.assertIs(is_walk(asked), False)

    def test_what_shows_is_asked_about_to_twenty_deep(self):
        walks, dealing = [("row", 2)], ("bits", 1, 2, (1, 2, 4))
        for depth in range(1, 21):
            for thing in nested(depth):
                with self.subTest(thing):
                    self.assertIs(shows_clash(TABLE, ("row", 3), thing), False)
                    self.assertIs(shows_clash(TABLE, ("row", 3), (thing, 0, 2)), False)
                    self.assertIs(shows_clash(TABLE, ("row", 3), ((0, 0), thing, thing)), False)
                    self.assertIs(shows_no_skew(1, walks, thing), False)
                    self.assertIs(shows_no_skew(1, walks, [(thing, 0, 1)]), False)
                    self.assertIs(shows_flips(dealing, [2], thing), False)
                    self.assertIs(shows_flips(dealing, [2], [thing]), False)

    def test_what_papers_are_asked_about_to_twenty_deep(self):
        walks, table = [("step", 0, 2, 2)], ("table", 2, ((0, 0, 1),))
        self.assertIs(shows_least(1, 3, walks, (table, ("words", (0, 2)))), True)
        self.assertIs(shows_least(1, 3, walks, (table, ("cases", (((0,),),)))), True)
        for depth in range(1, 21):
            for thing in nested(depth):
                with self.subTest(thing):
                    self.assertIs(shows_no_dealing(1, 3, 2, walks, thing), False)
                    self.assertIs(shows_no_dealing(1, 3, 2, walks, ((0, thing),)), False)
                    self.assertIs(shows_least(1, 3, walks, thing), False)
                    self.assertIs(shows_least(1, 3, walks, (thing, thing)), False)
                    self.assertIs(shows_least(1, 3, walks, (table, ("words", thing))), False)
                    self.assertIs(shows_least(1, 3, walks, (table, ("cases", thing))), False)
                    self.assertIs(shows_least(1, 3, walks, (table, (thing, (0, 2)))), False)
                    self.assertIs(shows_no_image(3, 1, [[4], [2]], thing), False)
                    self.assertIs(shows_no_image(3, 1, [[4], [2]], (thing, thing)), False)

    def test_trees_to_nine_deep(self):
        tree = (0,)
        for words in range(2, 10):
            tree = (tree,)
            walks = [("step", 0, words - 1, 2)]
            self.assertIs(shows_no_dealing(1, words, 1, walks, tree), True)
            self.assertEqual(dealt(1, words, 1, walks), ("none", tree))

    def test_joined_to_twenty_deep(self):
        thing = ("skew", 1, 1, 1, 0, 0)
        for _ in range(19):
            thing = ("joined", ("bits", 0, 0, ()), thing)
        self.assertIs(is_dealing(thing), True)


if __name__ == "__main__":
    unittest.main()

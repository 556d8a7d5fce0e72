"""[10]: anycheck.py."""

import itertools
import unittest

from bankwalk.anycheck import shows_least, shows_no_dealing
from bankwalk.anyhow import dealt, least_dealt
from tests.samples import NO_NUMBERS, NO_TUPLES_OF_WORDS, changed
from tests.trees import RING, SIZES, WALK_LISTS, is_dealing_tree, late_dealing_trees, meeting_said

ROW = [("row", 3)]
ROW_TREE = ((0, (0, 1)),)
RING_TREE = ((0, ((2, (0, 3)), 1)),)
RING_TABLE = ("table", 3, ((0, 1, 0, 1, 2),))


def barred():
    """What is asked of all trees that dealt tells, with the tree."""
    for rows, columns in SIZES:
        for walks in WALK_LISTS:
            for banks in range(1, 6):
                told = dealt(rows, columns, banks, walks)
                if told[0] == "none":
                    yield rows, columns, banks, walks, told[1]


class ShowsNoDealingTests(unittest.TestCase):
    def held_to_the_document(self, rows, columns, banks, walks, thing):
        said = is_dealing_tree(rows * columns, banks, meeting_said(rows, columns, walks), thing)
        with self.subTest(rows=rows, columns=columns, banks=banks, walks=walks, thing=thing):
            self.assertIs(shows_no_dealing(rows, columns, banks, walks, thing), said)

    def no(self, rows, columns, banks, walks, thing):
        with self.subTest(rows=rows, columns=columns, banks=banks, walks=walks, thing=thing):
            self.assertIs(shows_no_dealing(rows, columns, banks, walks, thing), False)

    def test_what_dealt_tells(self):
        for *asked, tree in barred():
            self.assertIs(shows_no_dealing(*asked, tree), True)

    def test_written_out(self):
        self.assertIs(shows_no_dealing(1, 3, 2, ROW, ROW_TREE), True)
        self.assertIs(shows_no_dealing(1, 5, 2, RING, RING_TREE), True)
        self.assertIs(shows_no_dealing(1, 2, 1, [("row", 2)], ((0,),)), True)

    def test_other_right_trees(self):
        others = 0
        for rows, columns, banks, walks, tree in barred():
            for other in late_dealing_trees(rows * columns, banks, meeting_said(rows, columns, walks)):
                self.assertIs(shows_no_dealing(rows, columns, banks, walks, other), True)
                others += other != tree
        self.assertGreater(others, 10)

    def test_a_later_bar_and_another_word(self):
        self.assertIs(shows_no_dealing(1, 3, 1, ROW, ((0,),)), True)
        self.assertIs(shows_no_dealing(1, 3, 1, ROW, (((0,),),)), True)
        self.assertIs(shows_no_dealing(1, 3, 1, ROW, (((1,),),)), True)
        self.no(1, 3, 1, ROW, (((2,),),))
        self.no(1, 3, 1, ROW, (((-1,),),))
        self.no(1, 3, 1, ROW, ((((0,),),),))
        self.no(1, 3, 1, ROW, (0,))

    def test_a_word_that_does_not_meet(self):
        self.no(1, 3, 2, [("row", 2), ("step", 1, 0, 2)], ROW_TREE)
        self.no(1, 3, 1, [("step", 0, 2, 2)], ((0,),))
        self.assertIs(shows_no_dealing(1, 3, 1, [("step", 0, 2, 2)], (((0,),),)), True)
        self.no(1, 3, 1, [("step", 0, 2, 2)], (((1,),),))

    def test_a_word_of_another_bank(self):
        self.no(1, 3, 2, ROW, ((0, (1, 0)),))
        self.no(1, 3, 2, ROW, ((0, (0, 0)),))
        self.no(1, 3, 2, ROW, ((0, (1, 1)),))

    def test_a_node_too_short_or_too_long(self):
        self.no(1, 3, 2, ROW, ())
        self.no(1, 3, 2, ROW, ((),))
        self.no(1, 3, 2, ROW, ((0,),))
        self.no(1, 3, 2, ROW, ((0, ()),))
        self.no(1, 3, 2, ROW, ((0, (0,)),))
        self.no(1, 3, 2, ROW, ((0, (0, 1, 1)),))
        self.no(1, 3, 2, ROW, ((0, (0, 1), 0),))
        self.no(1, 3, 2, ROW, ((0, (0, 1)), 0))
        self.no(1, 3, 2, ROW, ((0, (0, 1)), (0, (0, 1))))

    def test_lists_for_tuples(self):
        self.no(1, 3, 2, ROW, [(0, (0, 1))])
        self.no(1, 3, 2, ROW, ([0, (0, 1)],))
        self.no(1, 3, 2, ROW, ((0, [0, 1]),))

    def test_no_numbers(self):
        for thing in NO_NUMBERS:
            self.no(1, 3, 2, ROW, ((thing, (0, 1)),))
            self.no(1, 3, 2, ROW, ((0, (thing, 1)),))
            self.no(1, 3, 2, ROW, ((0, (0, thing)),))
        self.no(1, 3, 2, ROW, ((False, (0, 1)),))
        self.no(1, 3, 2, ROW, ((0, (0, True)),))

    def test_a_tree_of_other_banks_rows_columns_or_walks(self):
        trees = list(barred())
        for _, _, _, _, tree in trees[::2]:
            for rows, columns, banks, walks, _ in trees[::3]:
                self.held_to_the_document(rows, columns, banks, walks, tree)
        for banks in (1, 3, 4, 16):
            self.no(1, 3, banks, ROW, ROW_TREE)
        self.no(3, 1, 2, ROW, ROW_TREE)
        self.no(1, 2, 2, ROW, ROW_TREE)
        self.no(1, 3, 2, [("row", 2)], ROW_TREE)
        self.no(1, 3, 2, [], ROW_TREE)
        self.assertIs(shows_no_dealing(2, 3, 2, ROW, ROW_TREE), True)
        self.assertIs(shows_no_dealing(1, 4, 2, ROW, ROW_TREE), True)

    def test_where_there_is_a_dealing(self):
        for rows, columns in SIZES:
            for walks in WALK_LISTS:
                for banks in (1, 2, 3):
                    if dealt(rows, columns, banks, walks)[0] == "table":
                        for thing in (ROW_TREE, RING_TREE, (), ((0,),), ((0, 0),), (0,), 0, None, (((0,),),)):
                            self.no(rows, columns, banks, walks, thing)

    def test_one_word_is_never_barred(self):
        for thing in ((), (0,), ((),), ((0,),), (None,), 0):
            self.no(1, 1, 1, [], thing)
            self.no(1, 1, 1, [("row", 1)], thing)

    def test_things_that_are_none(self):
        for asked in ((1, 3, 2, ROW, ROW_TREE), (1, 5, 2, RING, RING_TREE), (1, 3, 1, ROW, (((0,),),))):
            for thing in changed(asked[-1]):
                self.held_to_the_document(*asked[:-1], thing)
            for thing in NO_TUPLES_OF_WORDS + [("none", asked[-1]), ("cases", asked[-1])]:
                self.no(*asked[:-1], thing)

    def test_all_small_things(self):
        leaves = [0, 1, 2, -1, True, None]
        pairs = [(x, y) for x in leaves for y in leaves]
        for inner in leaves + pairs + [(x,) for x in leaves]:
            for first in leaves[:3]:
                self.held_to_the_document(1, 3, 2, ROW, ((first, inner),))
                self.held_to_the_document(1, 3, 2, [("row", 2)], ((first, inner),))
                self.held_to_the_document(3, 1, 1, [("column", 3)], ((inner,),))


class ShowsLeastTests(unittest.TestCase):
    def yes(self, rows, columns, walks, thing):
        with self.subTest(rows=rows, columns=columns, walks=walks, thing=thing):
            self.assertIs(shows_least(rows, columns, walks, thing), True)

    def no(self, rows, columns, walks, thing):
        with self.subTest(rows=rows, columns=columns, walks=walks, thing=thing):
            self.assertIs(shows_least(rows, columns, walks, thing), False)

    def test_what_least_dealt_tells(self):
        for rows, columns in SIZES + [(3, 3), (1, 9), (2, 4)]:
            for walks in WALK_LISTS:
                self.yes(rows, columns, walks, least_dealt(rows, columns, walks))

    def test_other_dealings_that_are_clear(self):
        for cells in itertools.product(range(3), repeat=5):
            clear = all(cells[k] != cells[k - 1] for k in range(5))
            thing = (("table", 3, (cells,)), ("cases", RING_TREE))
            self.assertIs(shows_least(1, 5, RING, thing), clear)

    def test_other_words_that_meet(self):
        table = ("table", 2, ((0, 1), (0, 1)))
        for x in range(-1, 5):
            for y in range(-1, 5):
                self.assertIs(
                    shows_least(2, 2, [("row", 2)], (table, ("words", (x, y)))), (x, y) in [(0, 1), (2, 3)]
                )

    def test_one_bank(self):
        table = ("table", 1, ((0, 0), (0, 0)))
        for number in range(4):
            self.yes(2, 2, [("row", 1)], (table, ("words", (number,))))
        for numbers in ((-1,), (4,), (), (0, 1), (True,), (False,), [0], 0, None, ("0",)):
            self.no(2, 2, [("row", 1)], (table, ("words", numbers)))

    def test_cases_where_words_would_do(self):
        table = ("table", 3, ((0, 1, 2),))
        self.yes(1, 3, ROW, (table, ("cases", ROW_TREE)))
        self.yes(1, 3, ROW, (table, ("words", (0, 1, 2))))
        self.yes(1, 2, [("row", 2)], (("table", 2, ((1, 0),)), ("cases", ((0,),))))

    def test_cases_are_of_two_banks_or_more(self):
        table = ("table", 1, ((0, 0),))
        for thing in ((), (0,), ((0,),), ((),), None, 0):
            self.no(1, 2, [("row", 1)], (table, ("cases", thing)))

    def test_more_banks_than_the_least(self):
        self.no(1, 3, ROW, (("table", 4, ((0, 1, 2),)), ("words", (0, 1, 2))))
        self.no(1, 3, ROW, (("table", 4, ((0, 1, 2),)), ("cases", ROW_TREE)))
        self.no(1, 3, ROW, (("table", 4, ((0, 1, 2),)), ("words", (0, 1, 2, 3))))
        self.no(1, 3, ROW, (("table", 10**30, ((0, 1, 2),)), ("words", (0, 1, 2))))
        self.no(1, 3, ROW, (("table", 10**30, ((0, 1, 2),)), ("cases", ROW_TREE)))

    def test_fewer_words_than_banks(self):
        table = ("table", 3, ((0, 1, 2),))
        for numbers in ((0, 1), (0, 2), (1, 2), (0,), ()):
            self.no(1, 3, ROW, (table, ("words", numbers)))

    def test_words_that_do_not_rise_or_do_not_meet(self):
        table = ("table", 3, ((0, 1, 2),))
        for numbers in itertools.product(range(-1, 4), repeat=3):
            self.assertIs(shows_least(1, 3, ROW, (table, ("words", numbers))), numbers == (0, 1, 2))
        for numbers in itertools.combinations(range(5), 3):
            self.no(1, 5, RING, (RING_TABLE, ("words", numbers)))

    def test_walks_that_clash(self):
        self.no(1, 3, ROW, (("table", 3, ((0, 1, 0),)), ("words", (0, 1, 2))))
        self.no(1, 3, [("row", 2), ("row", 3)], (("table", 2, ((0, 1, 0),)), ("words", (0, 1))))
        self.no(1, 3, [("row", 3), ("row", 2)], (("table", 2, ((0, 1, 0),)), ("words", (0, 1))))

    def test_tables_of_another_size(self):
        paper = ("words", (0, 1))
        self.yes(1, 2, [("row", 2)], (("table", 2, ((0, 1),)), paper))
        self.no(1, 2, [("row", 2)], (("table", 2, ((0, 1), (0, 1))), paper))
        self.no(1, 2, [("row", 2)], (("table", 2, ((0, 1, 0),)), paper))
        self.no(1, 2, [("row", 2)], (("table", 2, ((0,), (1,))), paper))
        self.no(2, 1, [("row", 2)], (("table", 2, ((0, 1),)), paper))

    def test_dealings_of_other_kinds(self):
        papers = [("words", (0, 1)), ("words", (0,)), ("cases", ((0,),))]
        self.yes(2, 1, [("column", 2)], (("table", 2, ((0,), (1,))), papers[0]))
        self.yes(2, 1, [("column", 2)], (("table", 2, ((0,), (1,))), papers[2]))
        for dealing in [
            ("skew", 2, 1, 2, 1, 0),
            ("rests", 2, 1, 2, 1),
            ("bits", 1, 0, (1,)),
            ("joined", ("table", 2, ((0,), (1,))), ("table", 1, ((0,),))),
        ]:
            for paper in papers:
                self.no(2, 1, [("column", 2)], (dealing, paper))

    def test_no_dealings(self):
        paper = ("words", (0, 1))
        for thing in changed(("table", 2, ((0, 1),))) + NO_TUPLES_OF_WORDS + [("table", 2, ((0, 2),))]:
            self.no(1, 2, [("row", 2)], (thing, paper))

    def test_no_papers(self):
        table = ("table", 2, ((0, 1),))
        for paper in [("words", (0, 1)), ("cases", ((0,),))]:
            self.yes(1, 2, [("row", 2)], (table, paper))
            for thing in changed(paper) + NO_TUPLES_OF_WORDS:
                self.no(1, 2, [("row", 2)], (table, thing))
        for word in ("word", "Words", "", "case", "none", None, True, 0, ["words"], ("words",)):
            self.no(1, 2, [("row", 2)], (table, (word, (0, 1))))
            self.no(1, 2, [("row", 2)], (table, (word, ((0,),))))
        self.no(1, 2, [("row", 2)], (table, ("cases", (0, 1))))
        self.no(1, 2, [("row", 2)], (table, ("words", ((0,),))))
        self.no(1, 2, [("row", 2)], (table, ("words", (0, True))))
        self.no(1, 2, [("row", 2)], (table, ("words", (False, 1))))

    def test_things_that_are_none(self):
        for asked in ((1, 5, RING, (RING_TABLE, ("cases", RING_TREE))), (1, 3, ROW, least_dealt(1, 3, ROW))):
            self.yes(*asked)
            for thing in changed(asked[-1]) + NO_TUPLES_OF_WORDS + [asked[-1][0], asked[-1][1], asked[-1][::-1]]:
                self.no(*asked[:-1], thing)

    def test_things_of_other_rows_columns_or_walks(self):
        for rows, columns in SIZES:
            for walks in WALK_LISTS[::2]:
                told = least_dealt(rows, columns, walks)
                for other in SIZES:
                    if other != (rows, columns):
                        self.no(*other, walks, told)
        self.no(1, 5, RING + [("row", 3)], (RING_TABLE, ("cases", RING_TREE)))
        self.no(1, 5, [("row", 2)], (RING_TABLE, ("cases", RING_TREE)))


if __name__ == "__main__":
    unittest.main()

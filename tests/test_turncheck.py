"""[16]: turncheck.py."""

import itertools
import unittest

from bankwalk.turncheck import shows_plan
from bankwalk.turning import turn_plan
from tests.samples import NO_NUMBERS, NO_PAIRS, NO_TUPLES_OF_WORDS, changed, nested, size_said
from tests.test_turning import OBLONGS, SQUARES, other_plans, pairs_said, plan_holds

ONE = ("skew", 1, 1, 1, 0, 0)
NINE = ("skew", 3, 3, 9, 3, 1)


class ShowsPlanTests(unittest.TestCase):
    def yes(self, dealing, thing):
        with self.subTest(dealing=dealing, thing=thing):
            self.assertIs(shows_plan(dealing, thing), True)

    def no(self, dealing, thing):
        with self.subTest(dealing=dealing, thing=thing):
            self.assertIs(shows_plan(dealing, thing), False)

    def test_plans_in_any_order(self):
        for dealing in SQUARES:
            for plan in [turn_plan(dealing)] + other_plans(dealing):
                self.yes(dealing, plan)
        self.yes(NINE, [[(1, 2), (0, 1), (0, 2)]])
        self.yes(NINE, [[(1, 2)], [(0, 2), (0, 1)]])

    def test_empty_beats(self):
        self.yes(ONE, [])
        self.yes(ONE, [[]])
        self.yes(ONE, [[], [], []])
        self.yes(NINE, [[], [(0, 1), (0, 2)], [], [(1, 2)], []])
        self.no(NINE, [])
        self.no(NINE, [[], []])

    def test_all_ways_to_put_pairs_into_beats(self):
        told = set()
        for dealing in [dealing for dealing in SQUARES if size_said(dealing)[0] in (2, 3)]:
            pairs = pairs_said(dealing)
            for beats in itertools.product(range(3), repeat=len(pairs)):
                plan = [[pair for pair, at in zip(pairs, beats) if at == beat] for beat in range(3)]
                with self.subTest(dealing=dealing, plan=plan):
                    self.assertIs(shows_plan(dealing, plan), plan_holds(dealing, plan))
                    told.add((dealing[0], plan_holds(dealing, plan)))
        self.assertEqual(len({kind for kind, holds in told if holds}), 5)
        self.assertGreater(len({kind for kind, holds in told if not holds}), 2)

    def test_some_beats_joined_to_one(self):
        many = 0
        for dealing in SQUARES:
            plan = turn_plan(dealing)
            for at in range(min(len(plan) - 1, 9)):
                joined = plan[:at] + [plan[at] + plan[at + 1]] + plan[at + 2 :]
                with self.subTest(dealing=dealing, plan=joined):
                    self.assertIs(shows_plan(dealing, joined), plan_holds(dealing, joined))
                    many += not plan_holds(dealing, joined)
        self.assertGreater(many, 20)

    def test_each_pair_in_just_one_beat(self):
        for dealing in SQUARES:
            plan = [[pair] for pair in pairs_said(dealing)]
            for at in range(min(len(plan), 9)):
                self.no(dealing, plan[:at] + plan[at + 1 :])
                self.no(dealing, plan + [plan[at]])
                self.no(dealing, plan[:at] + [plan[at] * 2] + plan[at + 1 :])
        self.no(NINE, [[(0, 1), (0, 2)], [(1, 2), (0, 1)]])

    def test_pairs_that_are_none_of_the_table(self):
        plan = [[(0, 1), (0, 2), (1, 2)]]
        for wrong in [(1, 0), (0, 0), (2, 2), (0, 3), (2, 3), (-1, 0), (-1, 2), (10**20, 10**21), *NO_PAIRS]:
            self.no(NINE, [plan[0] + [wrong]])
            self.no(NINE, plan + [[wrong]])
            self.no(NINE, [[wrong] + plan[0][1:]])
            self.no(ONE, [[wrong]])

    def test_numbers_alone(self):
        self.yes(NINE, [[(0, 1), (0, 2), (1, 2)]])
        self.no(NINE, [[(False, 1), (0, 2), (1, 2)]])
        self.no(NINE, [[(0, True), (0, 2), (1, 2)]])
        for wrong in NO_NUMBERS:
            self.no(NINE, [[(0, 1), (wrong, 2), (1, 2)]])
            self.no(NINE, [[(0, 1), (0, 2), (1, wrong)]])

    def test_lists_of_lists_of_tuples(self):
        pairs = [(0, 1), (0, 2), (1, 2)]
        self.no(NINE, pairs)
        self.no(NINE, (pairs,))
        self.no(NINE, [tuple(pairs)])
        self.no(NINE, [[list(pair) for pair in pairs]])
        self.no(NINE, [[pairs]])
        self.no(NINE, [pairs, ()])
        self.no(NINE, [pairs, None])
        self.no(NINE, [pairs, (0, 1)])
        self.no(ONE, ())
        self.no(ONE, [()])
        self.no(ONE, [[[]]])
        self.no(ONE, [""])
        self.no(ONE, "")

    def test_changed_at_one_place(self):
        for dealing in SQUARES:
            plan = turn_plan(dealing)
            if 0 < len(plan) and size_said(dealing)[0] < 5:
                for thing in changed(plan):
                    self.no(dealing, thing)

    def test_anything_else_to_twenty_deep(self):
        deep = [thing for depth in range(1, 21) for thing in nested(depth)]
        for thing in NO_TUPLES_OF_WORDS + deep:
            for asked in (thing, [thing], [[thing]]):
                # A list of no beats, or of an empty one, is a plan of a table of one word.
                if asked not in ([], [[]]):
                    self.no(ONE, asked)
                self.no(NINE, asked)

    def test_false_where_it_is_not_square(self):
        for dealing in OBLONGS:
            rows, columns, _ = size_said(dealing)
            for most in (rows, columns):
                pairs = [(i, j) for i in range(most) for j in range(i + 1, most)]
                self.no(dealing, [[pair] for pair in pairs])
            for thing in ([], [[]], None, [[(0, 1)]]):
                self.no(dealing, thing)


if __name__ == "__main__":
    unittest.main()

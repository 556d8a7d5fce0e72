"""[16]: turning.py."""

import unittest

from bankwalk.errors import BankError, NotSquare
from bankwalk.places import emptied, filled
from bankwalk.turning import turn_plan, turned
from tests.samples import DEALINGS, JOINED, SKEW, TABLE, banks_said, same_kind, size_said

SQUARES = [
    ("skew", 2, 2, 2, 1, 1),
    ("skew", 3, 3, 3, 1, 1),
    ("skew", 3, 3, 9, 3, 1),
    ("skew", 4, 4, 5, 1, 2),
    ("skew", 5, 5, 7, 0, 0),
    ("skew", 8, 8, 16, 1, 3),
    ("rests", 3, 3, 4, 3),
    ("rests", 4, 4, 5, 4),
    ("rests", 3, 3, 2, 7),
    ("bits", 1, 1, (1, 2)),
    ("bits", 2, 2, (5, 10)),
    ("bits", 2, 2, (1, 2, 4, 8)),
    ("bits", 3, 3, (9, 18, 36, 7)),
    ("bits", 1, 1, ()),
    ("table", 3, ((0, 1, 2), (1, 0, 0), (2, 2, 1))),
    ("table", 8, ((0, 1, 2, 7), (3, 0, 4, 6), (5, 6, 0, 2), (1, 4, 3, 0))),
    ("joined", ("skew", 1, 2, 2, 0, 1), ("skew", 2, 1, 2, 1, 0)),
    ("joined", ("table", 2, ((0, 1), (1, 0))), ("joined", ("skew", 2, 1, 3, 1, 0), ("rests", 1, 2, 2, 1))),
] + [dealing for dealing in DEALINGS if size_said(dealing)[0] == size_said(dealing)[1]]

OBLONGS = [dealing for dealing in DEALINGS if size_said(dealing)[0] != size_said(dealing)[1]]


def pairs_said(dealing):
    rows = size_said(dealing)[0]
    return sorted((i, j) for i in range(rows) for j in range(rows) if i < j)


def words_in(beat):
    return [word for i, j in beat for word in ((i, j), (j, i))]


def beat_holds(banks, beat):
    """Whether no two words of the beat are in one bank, but of a pair that stands in it alone."""
    words = words_in(beat)
    clashing = [(x, y) for x in words for y in words if x < y and banks[x] == banks[y]]
    return clashing == [] or len(beat) == 1


def plan_said(dealing):
    """The pairs, rising, each put into the first beat into which it may be."""
    banks, plan = banks_said(dealing), []
    for pair in pairs_said(dealing):
        fitting = [beat for beat in plan if beat_holds(banks, beat + [pair])]
        if not fitting:
            fitting = [[]]
            plan += fitting
        fitting[0].append(pair)
    return plan


def plan_holds(dealing, plan):
    """Whether plan is one, by the document's sentences."""
    banks = banks_said(dealing)
    return sorted(pair for beat in plan for pair in beat) == pairs_said(dealing) and all(
        beat_holds(banks, beat) for beat in plan
    )


def other_plans(dealing):
    """Plans that hold, but for small tables unlike the one that is told."""
    told = plan_said(dealing)
    alone = [[pair] for pair in pairs_said(dealing)]
    return [
        told[::-1],
        [beat[::-1] for beat in told],
        [[]] + [part for beat in told for part in (beat, [])],
        alone,
        alone[1:] + [[]] + alone[:1],
    ]


def turned_said(dealing, worths):
    """The worths of the turned table, by the words' numbers."""
    rows = size_said(dealing)[0]
    return [worths[j * rows + i] for i in range(rows) for j in range(rows)]


class TurnPlanTests(unittest.TestCase):
    def test_written_out(self):
        self.assertEqual(turn_plan(("skew", 1, 1, 1, 0, 0)), [])
        self.assertEqual(turn_plan(("skew", 2, 2, 2, 1, 1)), [[(0, 1)]])
        self.assertEqual(turn_plan(("skew", 3, 3, 3, 1, 1)), [[(0, 1)], [(0, 2)], [(1, 2)]])
        self.assertEqual(turn_plan(("skew", 3, 3, 9, 3, 1)), [[(0, 1), (0, 2), (1, 2)]])
        self.assertEqual(turn_plan(("table", 4, ((0, 0, 2), (1, 0, 0), (3, 1, 0)))), [[(0, 1), (0, 2)], [(1, 2)]])
        self.assertEqual(turn_plan(("table", 4, ((0, 0, 0), (1, 0, 2), (1, 3, 0)))), [[(0, 1), (1, 2)], [(0, 2)]])

    def test_a_pair_in_one_bank_stands_alone(self):
        table = ("table", 7, ((0, 5, 1), (5, 0, 3), (2, 4, 0)))
        self.assertEqual(turn_plan(table), [[(0, 1)], [(0, 2), (1, 2)]])
        table = ("table", 7, ((0, 1, 5), (2, 0, 3), (5, 4, 0)))
        self.assertEqual(turn_plan(table), [[(0, 1), (1, 2)], [(0, 2)]])

    def test_against_the_document(self):
        for dealing in SQUARES:
            with self.subTest(dealing):
                told = turn_plan(dealing)
                self.assertTrue(same_kind(told, plan_said(dealing)))
                self.assertTrue(plan_holds(dealing, told))

    def test_all_sorts_are_asked(self):
        self.assertEqual({dealing[0] for dealing in SQUARES}, {"skew", "rests", "bits", "table", "joined"})
        plans = [plan_said(dealing) for dealing in SQUARES]
        self.assertTrue([plan for plan in plans if any(len(beat) > 3 for beat in plan)])
        # Some pair goes back into a beat ahead of the last one.
        self.assertTrue([plan for plan in plans if any(one[-1] > two[0] for one, two in zip(plan, plan[1:]))])

    def test_refused_where_it_is_not_square(self):
        for dealing in OBLONGS:
            with self.subTest(dealing), self.assertRaises(NotSquare) as caught:
                turn_plan(dealing)
            self.assertEqual(type(caught.exception).__bases__, (BankError,))


class TurnedTests(unittest.TestCase):
    def test_written_out(self):
        self.assertEqual(turned(("skew", 2, 2, 4, 2, 1), [[(0, 1)]], [[5], [6], [7], [8]]), [[5], [7], [6], [8]])
        self.assertEqual(turned(("skew", 2, 2, 1, 0, 0), [[], [(0, 1)]], [[5, 6, 7, 8]]), [[5, 7, 6, 8]])
        self.assertEqual(turned(("rests", 2, 2, 5, 1), [[(0, 1)]], [[5], [6], [7], [8], []]), [[5], [7], [6], [8], []])
        self.assertEqual(turned(("bits", 0, 0, ()), [], [[9]]), [[9]])

    def test_emptied_tells_the_turned_table(self):
        for dealing in SQUARES:
            worths = [3 * number - 20 for number in range(size_said(dealing)[0] ** 2)]
            for plan in [turn_plan(dealing)] + other_plans(dealing):
                with self.subTest(dealing=dealing, plan=plan):
                    self.assertTrue(plan_holds(dealing, plan))
                    memory = turned(dealing, plan, filled(dealing, worths))
                    self.assertEqual(emptied(dealing, memory), turned_said(dealing, worths))
                    self.assertTrue(same_kind(memory, filled(dealing, turned_said(dealing, worths))))

    def test_beat_by_beat(self):
        for dealing in SQUARES:
            rows = size_said(dealing)[0]
            memory, plan = filled(dealing, list(range(rows**2))), turn_plan(dealing)
            table = {(i, j): i * rows + j for i in range(rows) for j in range(rows)}
            for beat in plan[:20]:
                memory = turned(dealing, [beat], memory)
                for i, j in beat:
                    table[(i, j)], table[(j, i)] = table[(j, i)], table[(i, j)]
                self.assertEqual(emptied(dealing, memory), list(table.values()))

    def test_twice_is_as_before(self):
        for dealing in SQUARES:
            memory, plan = filled(dealing, list(range(size_said(dealing)[0] ** 2))), turn_plan(dealing)
            self.assertTrue(same_kind(turned(dealing, plan, turned(dealing, plan, memory)), memory))

    def test_places_that_hold_nothing_stay(self):
        dealing = ("rests", 3, 3, 2, 7)
        memory = filled(dealing, list(range(9)))
        told = turned(dealing, turn_plan(dealing), memory)
        holes = [[worth is None for worth in shelf] for shelf in memory]
        self.assertTrue(any(any(row) for row in holes))
        self.assertEqual([[worth is None for worth in shelf] for shelf in told], holes)

    def test_memories_are_the_asker_s_own(self):
        for dealing in SQUARES:
            worths = list(range(size_said(dealing)[0] ** 2))
            memory, plan = filled(dealing, worths), turn_plan(dealing)
            told = turned(dealing, plan, memory)
            self.assertEqual(memory, filled(dealing, worths))
            self.assertEqual(plan, turn_plan(dealing))
            for shelf in told:
                shelf.append("spoilt")
            told.append([])
            self.assertEqual(memory, filled(dealing, worths))

    def test_refused_where_it_is_not_square(self):
        for dealing in OBLONGS:
            rows, columns, _ = size_said(dealing)
            memory = filled(dealing, list(range(rows * columns)))
            for plan in ([], [[(0, 1)]], [[]]):
                with self.subTest(dealing=dealing, plan=plan), self.assertRaises(NotSquare) as caught:
                    turned(dealing, plan, memory)
                self.assertEqual(type(caught.exception).__bases__, (BankError,))


class SampleTests(unittest.TestCase):
    def test_which_are_square(self):
        self.assertIn(JOINED, SQUARES)
        self.assertIn(SKEW, OBLONGS)
        self.assertIn(TABLE, OBLONGS)


if __name__ == "__main__":
    unittest.main()

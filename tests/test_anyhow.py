"""[10]: anyhow.py."""

import itertools
import unittest

from bankwalk.anycheck import shows_least, shows_no_dealing
from bankwalk.anyhow import dealt, least_dealt, meeting
from bankwalk.clashes import clash
from bankwalk.dealings import is_dealing
from tests.samples import WALKS, same_kind
from tests.trees import RING, SIZES, WALK_LISTS, is_dealing_tree, meeting_said


def dealt_said(rows, columns, banks, walks):
    """The cells that dealt tells, by trying all dealings as they rise; None where there is none."""
    met = meeting_said(rows, columns, walks)
    for row in itertools.product(range(banks), repeat=rows * columns):
        if all(row[x] != row[y] for x, y in met):
            return tuple(row[i * columns : (i + 1) * columns] for i in range(rows))
    return None


def small():
    """Sizes, banks and walks of which all dealings can be tried."""
    for rows, columns in SIZES:
        for banks in range(1, 7):
            if banks ** (rows * columns) <= 5000:
                for walks in WALK_LISTS:
                    yield rows, columns, banks, walks


class MeetingTests(unittest.TestCase):
    def test_written_out(self):
        self.assertEqual(meeting(2, 2, [("row", 2)]), [(0, 1), (2, 3)])
        self.assertEqual(meeting(2, 2, [("row", 2), ("column", 2)]), [(0, 1), (0, 2), (1, 3), (2, 3)])
        self.assertEqual(meeting(2, 3, [("back", 2)]), [(1, 3), (2, 4)])
        self.assertEqual(meeting(1, 4, [("row", 3)]), [(0, 1), (0, 2), (1, 2), (1, 3), (2, 3)])
        self.assertEqual(meeting(3, 3, []), [])
        self.assertEqual(meeting(3, 3, [("row", 1), ("row", 4)]), [])
        self.assertEqual(meeting(2, 2, [("cells", ((5, 5), (4, 4)))]), [(0, 3)])

    def test_beside_a_plain_look_at_all_starts(self):
        for rows, columns in SIZES + [(4, 5), (1, 9)]:
            for walks in WALK_LISTS + [[walk] for walk in WALKS]:
                with self.subTest(rows=rows, columns=columns, walks=walks):
                    self.assertTrue(same_kind(meeting(rows, columns, walks), meeting_said(rows, columns, walks)))


class DealtTests(unittest.TestCase):
    def test_written_out(self):
        self.assertEqual(dealt(2, 2, 2, [("row", 2)]), ("table", 2, ((0, 1), (0, 1))))
        self.assertEqual(dealt(2, 2, 2, [("row", 2), ("column", 2)]), ("table", 2, ((0, 1), (1, 0))))
        self.assertEqual(dealt(2, 2, 16, []), ("table", 16, ((0, 0), (0, 0))))
        self.assertEqual(dealt(1, 5, 3, RING), ("table", 3, ((0, 1, 0, 1, 2),)))
        self.assertEqual(dealt(3, 3, 9, [("block", 3, 3)]), ("table", 9, ((0, 1, 2), (3, 4, 5), (6, 7, 8))))

    def test_papers_written_out(self):
        self.assertEqual(dealt(1, 2, 1, [("row", 2)]), ("none", ((0,),)))
        self.assertEqual(dealt(1, 3, 2, [("row", 3)]), ("none", ((0, (0, 1)),)))

    def test_beside_trying_all_dealings(self):
        for rows, columns, banks, walks in small():
            told = dealt(rows, columns, banks, walks)
            cells = dealt_said(rows, columns, banks, walks)
            with self.subTest(rows=rows, columns=columns, banks=banks, walks=walks):
                if cells is None:
                    self.assertEqual((type(told), len(told), told[0]), (tuple, 2, "none"))
                    self.assertTrue(is_dealing_tree(rows * columns, banks, meeting(rows, columns, walks), told[1]))
                else:
                    self.assertTrue(same_kind(told, ("table", banks, cells)))

    def test_both_sorts_are_asked(self):
        self.assertEqual({dealt(*asked)[0] for asked in small()}, {"table", "none"})

    def test_nine_words(self):
        for rows, columns in [(3, 3), (1, 9), (9, 1), (2, 4)]:
            for walks in WALK_LISTS:
                for banks in range(1, 10):
                    told = dealt(rows, columns, banks, walks)
                    if told[0] == "table":
                        self.assertTrue(is_dealing(told))
                        self.assertEqual([clash(told, walk) for walk in walks], [None] * len(walks))
                    else:
                        met = meeting(rows, columns, walks)
                        self.assertTrue(is_dealing_tree(rows * columns, banks, met, told[1]))
                        self.assertTrue(shows_no_dealing(rows, columns, banks, walks, told[1]))


class LeastDealtTests(unittest.TestCase):
    def test_written_out(self):
        self.assertEqual(least_dealt(1, 1, []), (("table", 1, ((0,),)), ("words", (0,))))
        self.assertEqual(least_dealt(2, 2, [("row", 2)]), (("table", 2, ((0, 1), (0, 1))), ("words", (0, 1))))
        self.assertEqual(least_dealt(2, 2, [("row", 3)]), (("table", 1, ((0, 0), (0, 0))), ("words", (0,))))
        nine = least_dealt(3, 3, [("block", 3, 3)])
        self.assertEqual(nine, (("table", 9, ((0, 1, 2), (3, 4, 5), (6, 7, 8))), ("words", tuple(range(9)))))
        self.assertEqual(least_dealt(1, 4, [("step", 0, 2, 2)]), (("table", 2, ((0, 0, 1, 1),)), ("words", (0, 2))))

    def test_a_ring_of_five_is_told_by_cases(self):
        dealing, paper = least_dealt(1, 5, RING)
        self.assertEqual(dealing, ("table", 3, ((0, 1, 0, 1, 2),)))
        self.assertEqual(paper[0], "cases")
        self.assertTrue(is_dealing_tree(5, 2, meeting(1, 5, RING), paper[1]))

    def test_against_the_document(self):
        told = set()
        for rows, columns in SIZES + [(3, 3), (1, 9), (9, 1), (2, 4)]:
            for walks in WALK_LISTS:
                with self.subTest(rows=rows, columns=columns, walks=walks):
                    told.add(self.held_to_the_document(rows, columns, walks))
        self.assertEqual(told, {"words", "cases"})

    def held_to_the_document(self, rows, columns, walks):
        dealing, paper = least_dealt(rows, columns, walks)
        banks = dealing[1]
        met = meeting_said(rows, columns, walks)
        self.assertTrue(same_kind(dealing, dealt(rows, columns, banks, walks)))
        if banks > 1:
            self.assertEqual(dealt(rows, columns, banks - 1, walks)[0], "none")
        for numbers in itertools.combinations(range(rows * columns), banks):
            if all(pair in met for pair in itertools.combinations(numbers, 2)):
                self.assertTrue(same_kind(paper, ("words", numbers)))
                return "words"
        self.assertEqual((type(paper), len(paper), paper[0]), (tuple, 2, "cases"))
        self.assertTrue(is_dealing_tree(rows * columns, banks - 1, met, paper[1]))
        return "cases"

    def test_what_is_told_shows_it(self):
        for rows, columns in SIZES:
            for walks in WALK_LISTS:
                self.assertIs(shows_least(rows, columns, walks, least_dealt(rows, columns, walks)), True)


if __name__ == "__main__":
    unittest.main()

"""[7]: rests.py."""

import unittest

from bankwalk.clashes import clash, clear_starts
from bankwalk.rests import blocks, free_steps, longest, rests_of
from bankwalk.walks import starts
from tests.samples import (
    DEALINGS,
    RESTS,
    SKEW,
    WALKS,
    alike_said,
    banks_said,
    cells_said,
    same_kind,
    size_said,
    words_said,
)

MORE = [
    ("skew", 5, 6, 12, 3, 4),
    ("skew", 6, 5, 12, 8, 6),
    ("skew", 7, 7, 7, 2, 3),
    ("skew", 3, 3, 1, 5, 5),
    ("skew", 4, 4, 8, 0, 3),
    ("skew", 4, 4, 8, 3, 0),
    ("skew", 2, 9, 32, 31, 99),
    ("rests", 6, 5, 6, 5),
    ("rests", 4, 9, 12, 5),
    ("rests", 3, 7, 7, 9),
    ("rests", 1, 9, 4, 3),
    ("rests", 9, 1, 3, 4),
]
ASKED = [dealing for dealing in DEALINGS if dealing[0] in ("skew", "rests")] + MORE


def rests_said(dealing, walk):
    rows, columns, banks = dealing[1:4]
    a, b = dealing[4:] if dealing[0] == "skew" else (columns, 1)
    return tuple((a * p + b * q) % banks for p, q in cells_said(walk))


def unlike(things):
    return len(set(things)) == len(things)


class RestsOfTests(unittest.TestCase):
    def test_written_out(self):
        self.assertEqual(rests_of(SKEW, ("row", 5)), (0, 2, 4, 1, 3))
        self.assertEqual(rests_of(SKEW, ("column", 3)), (0, 1, 2))
        self.assertEqual(rests_of(SKEW, ("back", 3)), (0, 4, 3))
        self.assertEqual(rests_of(RESTS, ("block", 2, 3)), (0, 1, 2, 1, 2, 0))
        self.assertEqual(rests_of(("rests", 2, 5, 3, 8), ("column", 2)), (0, 2))
        self.assertEqual(rests_of(SKEW, ("cells", ((-1, 0), (0, -1), (3, 3)))), (4, 3, 4))

    def test_against_the_document(self):
        for dealing in ASKED:
            for walk in WALKS:
                with self.subTest(dealing=dealing, walk=walk):
                    self.assertTrue(same_kind(rests_of(dealing, walk), rests_said(dealing, walk)))

    def test_beside_clash_and_clear_starts(self):
        for dealing in ASKED:
            for walk in WALKS:
                rests = rests_of(dealing, walk)
                with self.subTest(dealing=dealing, walk=walk):
                    if unlike(rests):
                        self.assertIsNone(clash(dealing, walk))
                        self.assertEqual(clear_starts(dealing, walk), starts(dealing, walk))
                    else:
                        self.assertEqual(clear_starts(dealing, walk), [])
                        first = [start + alike_said(rests)[0] for start in starts(dealing, walk)[:1]]
                        told = [clash(dealing, walk)] if first else []
                        self.assertEqual([start + (k, l) for start, k, l in told], first)

    def test_beside_a_plain_look_at_all_cells(self):
        for dealing in ASKED:
            banks = banks_said(dealing)
            for walk in WALKS:
                rests = rests_of(dealing, walk)
                for words in words_said(dealing, walk).values():
                    told = [(banks[word] - banks[words[0]]) % dealing[3] for word in words]
                    self.assertEqual(told, [(rest - rests[0]) % dealing[3] for rest in rests])


class LongestTests(unittest.TestCase):
    def test_written_out(self):
        self.assertEqual(longest(SKEW, 0, 1), 5)
        self.assertEqual(longest(SKEW, 1, 2), 1)
        self.assertEqual(longest(("skew", 2, 2, 12, 3, 4), 1, 0), 4)
        self.assertEqual(longest(("skew", 2, 2, 12, 3, 4), 0, 1), 3)
        self.assertEqual(longest(("skew", 2, 2, 12, 3, 4), 1, 1), 12)
        self.assertEqual(longest(("skew", 2, 2, 12, 3, 4), 1, -1), 12)
        self.assertEqual(longest(RESTS, 1, 0), 3)
        self.assertEqual(longest(RESTS, 1, -1), 1)
        self.assertEqual(longest(("skew", 1, 1, 1, 0, 0), 5, 5), 1)
        self.assertEqual(longest(("skew", 9, 9, 32, 0, 0), 1, 1), 1)

    def test_beside_the_rests_of_all_steps(self):
        for dealing in ASKED:
            for down in range(-4, 5):
                for along in (-15, -3, -2, -1, 0, 1, 2, 5, 15):
                    if down == along == 0:
                        continue
                    many = longest(dealing, down, along)
                    with self.subTest(dealing=dealing, down=down, along=along):
                        self.assertIs(type(many), int)
                        for some in range(1, dealing[3] + 2):
                            self.assertIs(unlike(rests_said(dealing, ("step", down, along, some))), some <= many)


class BlocksTests(unittest.TestCase):
    def test_written_out(self):
        self.assertEqual(blocks(SKEW), [5, 2, 1, 1, 1])
        self.assertEqual(blocks(("skew", 1, 1, 1, 0, 0)), [1])
        self.assertEqual(blocks(("skew", 3, 4, 4, 0, 0)), [1, 0, 0, 0])
        self.assertEqual(blocks(("skew", 3, 4, 4, 0, 1)), [4, 0, 0, 0])
        self.assertEqual(blocks(("skew", 3, 4, 4, 1, 0)), [1, 1, 1, 1])
        self.assertEqual(blocks(("skew", 3, 4, 6, 3, 1)), [6, 3, 0, 0, 0, 0])

    def test_beside_the_rests_of_all_blocks(self):
        for dealing in ASKED:
            told = blocks(dealing)
            self.assertEqual(len(told), dealing[3])
            for high, most in enumerate(told, start=1):
                for wide in range(1, dealing[3] + 2):
                    with self.subTest(dealing=dealing, high=high, wide=wide):
                        self.assertIs(type(most), int)
                        self.assertIs(unlike(rests_said(dealing, ("block", high, wide))), wide <= most)


class FreeStepsTests(unittest.TestCase):
    def test_written_out(self):
        self.assertEqual(free_steps(("skew", 2, 3, 3, 1, 1), 2), [(0, 1), (0, 2), (1, -2), (1, 0), (1, 1)])
        self.assertEqual(free_steps(("skew", 2, 3, 3, 1, 1), 3), [(0, 1)])
        self.assertEqual(free_steps(("skew", 2, 3, 3, 1, 1), 4), [])
        self.assertEqual(free_steps(("skew", 1, 1, 9, 1, 1), 1), [])
        self.assertEqual(free_steps(("rests", 2, 2, 3, 2), 1), [(0, 1), (1, -1), (1, 0), (1, 1)])

    def said(self, dealing, many):
        rows, columns, _ = size_said(dealing)
        banks = banks_said(dealing)
        told = []
        for down in range(rows):
            for along in range(-columns + 1, columns):
                if down == 0 and along <= 0:
                    continue
                words = words_said(dealing, ("step", down, along, many)).values()
                if words and all(unlike([banks[word] for word in row]) for row in words):
                    told.append((down, along))
        return told

    def test_beside_a_plain_look_at_all_cells(self):
        for dealing in ASKED:
            if dealing[1] * dealing[2] > 70:
                continue
            for many in (1, 2, 3, 4, 16):
                with self.subTest(dealing=dealing, many=many):
                    self.assertTrue(same_kind(free_steps(dealing, many), self.said(dealing, many)))

    def test_beside_clash_and_starts(self):
        for dealing in ASKED:
            rows, columns, _ = size_said(dealing)
            for many in (2, 3, 5):
                told = free_steps(dealing, many)
                for down in range(rows):
                    for along in range(-columns + 1, columns):
                        if down > 0 or along > 0:
                            walk = ("step", down, along, many)
                            free = starts(dealing, walk) != [] and clash(dealing, walk) is None
                            self.assertIs((down, along) in told, free)


if __name__ == "__main__":
    unittest.main()

"""[11]: maskcheck.py."""

import unittest

from bankwalk.dealings import bank_of, is_dealing, size_of
from bankwalk.maskcheck import dealing_by, shows_no_image
from bankwalk.masks import image_for, least_bits
from tests.samples import NO_NUMBERS, NO_TUPLES_OF_WORDS, changed, same_kind
from tests.trees import image_said, is_image_tree, late_image_trees, span_lists

THREE = [[1], [2], [3]]
THREE_TREE = (1, (2, 3))


def barred():
    """What is asked of all trees that image_for tells, with the tree."""
    for wide, spans in span_lists():
        for bits in range(5):
            told = image_for(wide, bits, spans)
            if told[0] == "none":
                yield wide, bits, spans, told[1]


class ShowsNoImageTests(unittest.TestCase):
    def held_to_the_document(self, wide, bits, spans, thing):
        said = is_image_tree(wide, bits, spans, thing)
        with self.subTest(wide=wide, bits=bits, spans=spans, thing=thing):
            self.assertIs(shows_no_image(wide, bits, spans, thing), said)

    def no(self, wide, bits, spans, thing):
        with self.subTest(wide=wide, bits=bits, spans=spans, thing=thing):
            self.assertIs(shows_no_image(wide, bits, spans, thing), False)

    def test_what_image_for_tells(self):
        for *asked, tree in barred():
            self.assertIs(shows_no_image(*asked, tree), True)

    def test_written_out(self):
        self.assertIs(shows_no_image(2, 1, THREE, THREE_TREE), True)
        self.assertIs(shows_no_image(1, 0, [[1]], (1,)), True)
        self.assertIs(shows_no_image(3, 0, [[4]], (((4,),),)), True)

    def test_other_right_trees(self):
        others = 0
        for wide, bits, spans, tree in barred():
            for other in late_image_trees(wide, bits, spans):
                self.assertIs(shows_no_image(wide, bits, spans, other), True)
                others += other != tree
        self.assertGreater(others, 10)

    def test_a_later_bar_and_another_flip(self):
        spans = [[1], [2, 1]]
        self.assertIs(shows_no_image(2, 0, spans, (1,)), True)
        self.assertIs(shows_no_image(2, 0, spans, ((2,),)), True)
        self.assertIs(shows_no_image(2, 0, spans, ((3,),)), True)
        self.no(2, 0, spans, ((1,),))
        self.no(2, 0, spans, (2,))
        self.no(2, 0, spans, (((2,),),))

    def test_no_flip_or_not_led_to_0(self):
        self.no(2, 1, THREE, (1, (3, 2)))
        self.no(2, 1, THREE, (1, (2, 2)))
        self.no(2, 1, THREE, (1, (3, 3)))
        self.no(2, 1, THREE, (1, (0, 3)))
        self.no(2, 1, THREE, (0, (2, 3)))
        self.no(2, 1, THREE, (2, (2, 3)))
        self.no(2, 1, THREE, (1, (2, -3)))
        self.no(2, 1, THREE, (-1, (2, 3)))
        self.no(2, 1, [[1], [2]], THREE_TREE)
        self.no(2, 1, [[2], [3]], THREE_TREE)

    def test_0_is_no_bar(self):
        self.no(1, 0, [], (0,))
        self.no(1, 0, [[]], (0,))
        self.no(1, 0, [[1]], (0,))
        self.no(2, 0, [[2]], (0,))
        self.no(2, 0, [[2]], ((0,),))

    def test_a_node_too_short_or_too_long(self):
        self.no(2, 1, THREE, ())
        self.no(2, 1, THREE, (1,))
        self.no(2, 1, THREE, (1, ()))
        self.no(2, 1, THREE, (1, (2,)))
        self.no(2, 1, THREE, (1, (2, 3, 3)))
        self.no(2, 1, THREE, (1, (2, 3), 1))
        self.no(2, 0, [[2]], ())
        self.no(2, 0, [[2]], ((),))
        self.no(2, 0, [[2]], ((2, 2),))

    def test_how_many_numbers_are_asked_about(self):
        spans = [[1], [2], [4], [3, 5]]
        for bits in range(3):
            for tree in late_image_trees(3, bits, spans):
                if tree is not None:
                    self.assertIs(shows_no_image(3, bits, spans, tree), True)
                    for thing in changed(tree):
                        self.held_to_the_document(3, bits, spans, thing)

    def test_lists_for_tuples(self):
        self.no(2, 1, THREE, [1, (2, 3)])
        self.no(2, 1, THREE, (1, [2, 3]))

    def test_no_numbers(self):
        for thing in NO_NUMBERS:
            self.no(2, 1, THREE, (thing, (2, 3)))
            self.no(2, 1, THREE, (1, (thing, 3)))
            self.no(2, 1, THREE, (1, (2, thing)))
        self.no(1, 0, [[1]], (True,))

    def test_a_tree_of_other_bits_wide_or_spans(self):
        trees = list(barred())
        for _, _, _, tree in trees[::3]:
            for wide, bits, spans, _ in trees[::5]:
                self.held_to_the_document(wide, bits, spans, tree)
        for bits in (0, 2, 3, 5):
            self.no(2, bits, THREE, THREE_TREE)
        self.no(1, 1, [[1]], THREE_TREE)
        self.assertIs(shows_no_image(3, 1, THREE, THREE_TREE), True)

    def test_where_there_is_an_image(self):
        for wide, spans in span_lists():
            bits = least_bits(wide, spans)[0]
            for thing in (THREE_TREE, (), (1,), (1, 1), ((1,),), 0, 1, None, (None, None)):
                self.no(wide, bits, spans, thing)

    def test_things_that_are_none(self):
        for asked in ((2, 1, THREE, THREE_TREE), (2, 0, [[1], [2, 1]], ((2,),))):
            for thing in changed(asked[-1]):
                self.held_to_the_document(*asked[:-1], thing)
            for thing in NO_TUPLES_OF_WORDS + [("none", asked[-1]), ("image", [0, 1])]:
                self.no(*asked[:-1], thing)


class DealingByTests(unittest.TestCase):
    def test_written_out(self):
        self.assertEqual(dealing_by(0, 0, []), ("bits", 0, 0, ()))
        self.assertEqual(dealing_by(1, 1, [0, 0]), ("bits", 1, 1, ()))
        self.assertEqual(dealing_by(1, 1, [1, 2]), ("bits", 1, 1, (1, 2)))
        self.assertEqual(dealing_by(1, 1, [2, 1]), ("bits", 1, 1, (2, 1)))
        self.assertEqual(dealing_by(1, 1, [0, 4]), ("bits", 1, 1, (0, 0, 2)))
        self.assertEqual(dealing_by(1, 2, [1, 3, 2]), ("bits", 1, 2, (3, 6)))
        self.assertEqual(dealing_by(0, 1, [31]), ("bits", 0, 1, (1, 1, 1, 1, 1)))

    def test_beside_the_numbers_own_leading(self):
        for high in range(5):
            for low in range(5):
                for seed in range(12):
                    numbers = [(seed * seed * 11 + seed * t * 7 + t * t) % (1 + 3 * seed) % 32 for t in range(high + low)]
                    self.held_to_the_document(high, low, numbers)

    def held_to_the_document(self, high, low, numbers):
        dealing = dealing_by(high, low, numbers)
        with self.subTest(high=high, low=low, numbers=numbers):
            self.assertTrue(is_dealing(dealing))
            self.assertTrue(same_kind(dealing[:3], ("bits", high, low)))
            self.assertEqual(len(dealing[3]), len(bin(max(numbers + [0]))[2:].lstrip("0")))
            self.assertEqual(size_of(dealing)[:2], (2**high, 2**low))
            for i in range(2**high):
                for j in range(2**low):
                    self.assertEqual(bank_of(dealing, (i, j)), image_said(numbers, i * 2**low + j))

    def test_images_that_were_found(self):
        for wide, spans in span_lists():
            bits, numbers, _ = least_bits(wide, spans)
            dealing = dealing_by(wide // 2, wide - wide // 2, numbers)
            self.assertTrue(is_dealing(dealing))
            self.assertLessEqual(len(dealing[3]), bits)


if __name__ == "__main__":
    unittest.main()

"""[11]: masks.py."""

import itertools
import unittest

from bankwalk.maskcheck import shows_no_image
from bankwalk.masks import image_for, least_bits
from tests.samples import same_kind
from tests.trees import flips_said, image_said, is_image_tree, next_numbers, span_lists


def image_found(wide, bits, spans):
    """The least image that serves, by trying all rows of numbers as they rise; None where there is none."""
    for row in itertools.product(range(2**bits), repeat=wide):
        numbers = list(row)
        if all(numbers[t] in next_numbers(bits, numbers[:t]) for t in range(wide)):
            if all(image_said(numbers, flip) != 0 for flip in flips_said(spans)):
                return numbers
    return None


def serves_any(wide, bits, spans):
    """Whether any image serves, whatever its numbers."""
    rows = itertools.product(range(2**bits), repeat=wide)
    return any(all(image_said(row, flip) != 0 for flip in flips_said(spans)) for row in rows)


class ImageForTests(unittest.TestCase):
    def test_written_out(self):
        self.assertEqual(image_for(3, 2, []), ("image", [0, 0, 0]))
        self.assertEqual(image_for(3, 0, []), ("image", [0, 0, 0]))
        self.assertEqual(image_for(3, 0, [[], []]), ("image", [0, 0, 0]))
        self.assertEqual(image_for(3, 1, [[4]]), ("image", [0, 0, 1]))
        self.assertEqual(image_for(3, 1, [[1], [6]]), ("image", [1, 0, 1]))
        self.assertEqual(image_for(2, 2, [[1, 2]]), ("image", [1, 2]))
        self.assertEqual(image_for(2, 2, [[1], [2], [3]]), ("image", [1, 2]))
        self.assertEqual(image_for(4, 2, [[1, 2], [4, 8], [5, 10]]), ("image", [1, 2, 2, 3]))
        self.assertEqual(image_for(5, 5, [[1, 2, 4], [8, 16]]), ("image", [1, 2, 4, 1, 2]))

    def test_papers_written_out(self):
        self.assertEqual(image_for(1, 0, [[1]]), ("none", (1,)))
        self.assertEqual(image_for(3, 0, [[4]]), ("none", (((4,),),)))
        self.assertEqual(image_for(2, 1, [[1], [2], [3]]), ("none", (1, (2, 3))))

    def test_beside_trying_all_rows_of_numbers(self):
        told = set()
        for wide, spans in span_lists():
            for bits in range(6):
                if (2**bits) ** wide <= 600:
                    numbers = image_found(wide, bits, spans)
                    answer = image_for(wide, bits, spans)
                    told.add(answer[0])
                    with self.subTest(wide=wide, bits=bits, spans=spans):
                        if numbers is None:
                            self.assertEqual((type(answer), len(answer), answer[0]), (tuple, 2, "none"))
                            self.assertTrue(is_image_tree(wide, bits, spans, answer[1]))
                        else:
                            self.assertTrue(same_kind(answer, ("image", numbers)))
        self.assertEqual(told, {"image", "none"})

    def test_none_where_no_image_serves_at_all(self):
        for wide, spans in span_lists():
            for bits in range(4):
                if (2**bits) ** wide <= 600:
                    self.assertIs(image_for(wide, bits, spans)[0] == "image", serves_any(wide, bits, spans))

    def test_the_greatest_that_may_be_asked(self):
        for bits in range(6):
            for spans in [[[31, 30, 28], [1, 2, 4], [16, 8, 5], [21, 10, 3]], [[16, 8, 4], [31], [1, 30], [7]]]:
                told = image_for(5, bits, spans)
                if told[0] == "none":
                    self.assertTrue(is_image_tree(5, bits, spans, told[1]))
                else:
                    self.assertTrue(all(image_said(told[1], flip) for flip in flips_said(spans)))


class LeastBitsTests(unittest.TestCase):
    def test_written_out(self):
        self.assertEqual(least_bits(3, []), (0, [0, 0, 0], None))
        self.assertEqual(least_bits(1, [[]]), (0, [0], None))
        self.assertEqual(least_bits(1, [[1]]), (1, [1], None))
        self.assertEqual(least_bits(3, [[], [1, 2, 4], [7]]), (3, [1, 2, 4], None))
        self.assertEqual(least_bits(2, [[1], [2]]), (1, [1, 1], None))

    def test_with_a_paper(self):
        bits, numbers, paper = least_bits(2, [[1], [2], [3]])
        self.assertEqual((bits, numbers), (2, [1, 2]))
        self.assertTrue(is_image_tree(2, 1, [[1], [2], [3]], paper))

    def test_against_the_document(self):
        told = set()
        for wide, spans in span_lists():
            bits, numbers, paper = least_bits(wide, spans)
            with self.subTest(wide=wide, spans=spans):
                self.assertIs(type(bits), int)
                self.assertTrue(same_kind(("image", numbers), image_for(wide, bits, spans)))
                if bits > 0:
                    self.assertEqual(image_for(wide, bits - 1, spans)[0], "none")
                if bits == 0 or bits in [len(span) for span in spans]:
                    self.assertIsNone(paper)
                else:
                    self.assertTrue(is_image_tree(wide, bits - 1, spans, paper))
                    self.assertIs(shows_no_image(wide, bits - 1, spans, paper), True)
            told.add((bits, paper is None))
        self.assertEqual(told, {(0, True), (1, True), (2, True), (3, True), (2, False), (3, False), (4, False)})

    def test_the_least(self):
        for wide, spans in span_lists():
            bits = least_bits(wide, spans)[0]
            if (2**bits) ** wide <= 600:
                self.assertTrue(serves_any(wide, bits, spans))
                self.assertFalse(bits > 0 and serves_any(wide, bits - 1, spans))


if __name__ == "__main__":
    unittest.main()

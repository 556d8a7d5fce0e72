"""[17]: texts.py."""

import re
import unittest

from bankwalk.dealings import is_dealing
from bankwalk.errors import BadText, BankError
from bankwalk.texts import dealing_of, dealing_text, walk_of, walk_text
from bankwalk.walks import is_walk
from tests.samples import BITS, DEALINGS, JOINED, RESTS, SKEW, TABLE, WALKS, same_kind

DEALING_TEXTS = {
    "skew 4 5 5 1 2": SKEW,
    "skew 1 1 1 0 0": ("skew", 1, 1, 1, 0, 0),
    "skew 9999 9999 9999 9999 9999": ("skew", 9999, 9999, 9999, 9999, 9999),
    "rests 3 4 3 5": RESTS,
    "rests 1 1 1 1": ("rests", 1, 1, 1, 1),
    "bits 2 3 5 26": BITS,
    "bits 0 0": ("bits", 0, 0, ()),
    "bits 0 0 0": ("bits", 0, 0, (0,)),
    "bits 99 99 1 9999 1": ("bits", 99, 99, (1, 9999, 1)),
    "bits 9999 9999": ("bits", 9999, 9999, ()),
    "table 3 : 0 2 0 / 1 1 2": TABLE,
    "table 1 : 0": ("table", 1, ((0,),)),
    "table 9 : 8 / 0 / 8": ("table", 9, ((8,), (0,), (8,))),
    "joined ( skew 2 3 3 1 1 ) ( table 2 : 0 1 / 1 1 / 0 0 )": JOINED,
    "joined ( joined ( bits 0 0 ) ( bits 1 0 1 ) ) ( rests 1 1 1 1 )": (
        "joined",
        ("joined", ("bits", 0, 0, ()), ("bits", 1, 0, (1,))),
        ("rests", 1, 1, 1, 1),
    ),
    "joined ( bits 0 0 ) ( joined ( rests 1 1 1 1 ) ( bits 1 0 1 ) )": (
        "joined",
        ("bits", 0, 0, ()),
        ("joined", ("rests", 1, 1, 1, 1), ("bits", 1, 0, (1,))),
    ),
}

WALK_TEXTS = {
    "row 1": ("row", 1),
    "row 9999": ("row", 9999),
    "column 3": ("column", 3),
    "slant 10": ("slant", 10),
    "back 2": ("back", 2),
    "block 2 3": ("block", 2, 3),
    "block 9999 9999": ("block", 9999, 9999),
    "step 1 -2 3": ("step", 1, -2, 3),
    "step -9999 0 1": ("step", -9999, 0, 1),
    "step 0 9999 9999": ("step", 0, 9999, 9999),
    "cells 0 0": ("cells", ((0, 0),)),
    "cells -1 0 / 0 -1 / 10 -15": ("cells", ((-1, 0), (0, -1), (10, -15))),
}

NUMBER = "(?:0|-?[1-9][0-9]{0,3})"
ROW = f"{NUMBER}(?: {NUMBER})*"
LEAF = f"(?:skew(?: {NUMBER}){{5}}|rests(?: {NUMBER}){{4}}|bits(?: {NUMBER}){{2,}}|table {NUMBER} : {ROW}(?: / {ROW})*)"
WALK = (
    f"(?:(?:row|column|slant|back) {NUMBER}|block(?: {NUMBER}){{2}}|step(?: {NUMBER}){{3}}"
    f"|cells {NUMBER} {NUMBER}(?: / {NUMBER} {NUMBER})*)"
)


def is_dealing_so_written(text):
    """Whether a text is written as a dealing's is, by folding the innermost brackets again and again."""
    if "D" in text:
        return False
    folded = None
    while folded != text:
        folded, text = text, re.sub(rf"\( (?:{LEAF}|joined D D) \)", "D", text)
    return re.fullmatch(rf"{LEAF}|joined D D", text) is not None


def is_walk_so_written(text):
    return re.fullmatch(WALK, text) is not None


def neighbours(text):
    """Texts that are like text but for one sign or one word."""
    told = [text[:at] + text[at + 1 :] for at in range(len(text))]
    for sign in " 0179-/:()+_.,sD\n":
        told += [text[:at] + sign + text[at:] for at in range(len(text) + 1)]
        told += [text[:at] + sign + text[at + 1 :] for at in range(len(text))]
    words = text.split(" ")
    for at in range(len(words)):
        told += [" ".join(words[:at] + more + words[at + 1 :]) for more in ([], words[at : at + 1] * 2)]
        for word in ("0", "-1", "-0", "00", "01", "10000", "9999", "/", ":", "(", ")", "row", "skew", "joined", "bits"):
            told += [" ".join(words[:at] + [word] + words[at + 1 :]), " ".join(words[:at] + [word] + words[at:])]
    return [other for other in told if other != text]


class WrittenTests(unittest.TestCase):
    def test_written_out(self):
        for text, dealing in DEALING_TEXTS.items():
            self.assertEqual(dealing_text(dealing), text)
        for text, walk in WALK_TEXTS.items():
            self.assertEqual(walk_text(walk), text)

    def test_read_back(self):
        for dealing in DEALINGS + list(DEALING_TEXTS.values()):
            with self.subTest(dealing):
                self.assertIs(type(dealing_text(dealing)), str)
                self.assertTrue(is_dealing_so_written(dealing_text(dealing)))
                self.assertTrue(same_kind(dealing_of(dealing_text(dealing)), dealing))
        for walk in WALKS + list(WALK_TEXTS.values()):
            with self.subTest(walk):
                self.assertIs(type(walk_text(walk)), str)
                self.assertTrue(is_walk_so_written(walk_text(walk)))
                self.assertTrue(same_kind(walk_of(walk_text(walk)), walk))

    def test_every_kind_and_word(self):
        self.assertEqual({dealing[0] for dealing in DEALINGS}, {"skew", "rests", "bits", "table", "joined"})
        self.assertEqual({walk[0] for walk in WALKS}, {"row", "column", "slant", "back", "block", "step", "cells"})


class ReadTests(unittest.TestCase):
    def test_written_out(self):
        for text, dealing in DEALING_TEXTS.items():
            with self.subTest(text):
                self.assertTrue(same_kind(dealing_of(text), dealing))
        for text, walk in WALK_TEXTS.items():
            with self.subTest(text):
                self.assertTrue(same_kind(walk_of(text), walk))

    def test_bounds_are_not_looked_at(self):
        wide = ("cells", tuple((t, -t) for t in range(150)))
        self.assertEqual(walk_of(walk_text(wide)), wide)
        great = ("table", 9999, (tuple(range(500)),))
        self.assertEqual(dealing_of(dealing_text(great)), great)
        many = ("bits", 7, 7, (16383 % 10000,) * 300)
        self.assertEqual(dealing_of(dealing_text(many)), many)

    def test_brackets_to_sixty_within_one_another(self):
        for left in (True, False):
            dealing = ("bits", 0, 0, ())
            for _ in range(60):
                dealing = ("joined", dealing, ("bits", 0, 1, (1,))) if left else ("joined", ("bits", 0, 0, ()), dealing)
            text = dealing_text(dealing)
            self.assertLessEqual(len(text), 3000)
            self.assertEqual(dealing_of(text), dealing)
            self.refused(text[:-2])
            self.refused(text + " )")

    def refused(self, text):
        with self.subTest(text), self.assertRaises(BadText) as caught:
            dealing_of(text)
        self.assertEqual(type(caught.exception).__bases__, (BankError,))

    def refused_walk(self, text):
        with self.subTest(text), self.assertRaises(BadText) as caught:
            walk_of(text)
        self.assertEqual(type(caught.exception).__bases__, (BankError,))

    def test_numbers_that_are_not_so_written(self):
        for wrong in ["01", "00", "001", "-0", "-00", "-01", "+1", "1.0", "1_0", "0x1", "1e1", "--1", "-", "", "a", "1-"]:
            for at in range(1, 6):
                words = "skew 1 1 1 1 1".split(" ")
                words[at] = wrong
                self.refused(" ".join(words))
            self.refused(f"bits 5 5 {wrong}")
            self.refused(f"bits {wrong} 5")
            self.refused(f"table {wrong} : 0")
            self.refused(f"table 5 : 0 {wrong}")
            self.refused(f"table 5 : {wrong} / 0")
            self.refused(f"joined ( bits 0 {wrong} ) ( bits 0 0 )")
            self.refused_walk(f"row {wrong}")
            self.refused_walk(f"block 2 {wrong}")
            self.refused_walk(f"step {wrong} 1 1")
            self.refused_walk(f"step 1 {wrong} 1")
            self.refused_walk(f"step 1 1 {wrong}")
            self.refused_walk(f"cells {wrong} 9")
            self.refused_walk(f"cells 9 9 / 9 {wrong}")

    def test_more_than_four_figures(self):
        self.assertEqual(dealing_of("skew 9999 1 1 0 0")[1], 9999)
        self.assertEqual(walk_of("step -9999 9999 1"), ("step", -9999, 9999, 1))
        for wrong in ["10000", "12345", "00001", "99999999999999999999"]:
            self.refused(f"skew {wrong} 1 1 0 0")
            self.refused(f"skew 1 1 1 0 {wrong}")
            self.refused(f"rests 1 1 1 {wrong}")
            self.refused(f"bits 99 99 {wrong}")
            self.refused(f"table {wrong} : 0")
            self.refused_walk(f"row {wrong}")
            self.refused_walk(f"step -{wrong} 1 1")
            self.refused_walk(f"cells 0 {wrong}")
            self.refused_walk(f"cells 0 -{wrong}")

    def test_blanks(self):
        for text in DEALING_TEXTS:
            for wrong in (" " + text, text + " ", text + "\n", "\n" + text, text.replace(" ", "  ", 1)):
                self.refused(wrong)
        for text in WALK_TEXTS:
            for wrong in (" " + text, text + " ", text + "\n", "\n" + text, text.replace(" ", "  ", 1)):
                self.refused_walk(wrong)
        for text in ("", " ", "  ", "\n", "\n\n"):
            self.refused(text)
            self.refused_walk(text)

    def test_other_words(self):
        for text in ("Skew 1 1 1 0 0", "SKEW 1 1 1 0 0", "skews 1 1 1 0 0", "deal skew 1 1 1 0 0", "1 1 1 0 0", "bit 0 0"):
            self.refused(text)
        for text in ("rows 1", "Row 1", "col 1", "diagonal 2", "1", "walk row 1", "cell 0 0"):
            self.refused_walk(text)
        for text in DEALING_TEXTS:
            self.refused_walk(text)
        for text in WALK_TEXTS:
            self.refused(text)

    def test_strokes_and_colons(self):
        for text in ("table 2 0 1", "table 2 :", "table : 0", "table 2 : /", "table 2 : 0 /", "table 2 : / 0", "table"):
            self.refused(text)
        for text in ("table 2 : 0 / / 0", "table 2 : 0/0", "table 2 : 0 : 0", "table 2: 0", "table 2 / 0", "table 2 3 : 0"):
            self.refused(text)
        for text in ("table 2", "table : : 0", "skew 1 1 1 / 0 0", "bits 0 0 /", "bits 0 0 : 0", "table 2 : : 0"):
            self.refused(text)
        for text in ("cells", "cells /", "cells 0", "cells 0 0 /", "cells / 0 0", "cells 0 0 / / 1 1", "cells 0 / 0"):
            self.refused_walk(text)
        for text in ("cells 0 0 0", "cells 0 0 1 1", "cells : 0 0", "cells 0 0/1 1", "row 1 / 2", "cells 0 0 / 1"):
            self.refused_walk(text)

    def test_brackets(self):
        one = "( bits 0 0 )"
        self.assertEqual(dealing_of(f"joined {one} {one}"), ("joined", ("bits", 0, 0, ()), ("bits", 0, 0, ())))
        for text in ("joined", f"joined {one}", f"joined {one} {one} {one}", one, f"{one} {one}", f"( joined {one} {one} )"):
            self.refused(text)
        for text in (f"joined {one} ( bits 0 0", f"joined ( bits 0 0 {one}", f"joined {one} bits 0 0 )", f"joined {one} )"):
            self.refused(text)
        for text in (f"joined ( {one} ) {one}", "joined ( ) ( )", f"joined ( ) {one}", f"joined {one} ( )"):
            self.refused(text)
        for text in ("joined (bits 0 0) (bits 0 0)", "joined ( bits 0 0 )( bits 0 0 )", "joined bits 0 0 bits 0 0"):
            self.refused(text)
        for text in (f"joined ) {one} (", f"joined {one} ( bits ) 0 0 (", "joined " + "( " * 60, "( " * 59 + "("):
            self.refused(text)
        for text in ("joined ) bits 0 0 ( ) bits 0 0 (", f"joined {one} ) bits 0 0 (", f"joined ) bits 0 0 ( {one}"):
            self.refused(text)
        for text in (f"joined {one} {one} 0", f"joined 0 {one} {one}", f"joined {one} 0 {one}", f"joined {one} ( row 1 )"):
            self.refused(text)

    def test_so_written_and_no_dealing(self):
        for text in ("skew 0 1 1 0 0", "skew 1 0 1 0 0", "skew 1 1 0 0 0", "skew -1 1 1 0 0", "skew 1 1 1 -1 0"):
            self.refused(text)
        for text in ("skew 1 1 1 0", "skew 1 1 1 0 0 0", "skew", "rests 1 1 1", "rests 1 1 1 1 1", "bits", "bits 0"):
            self.refused(text)
        for text in ("rests 2 2 2 2", "rests 3 3 2 3", "rests 1 1 0 1", "rests 1 1 1 0", "rests 2 2 -5 -1"):
            self.refused(text)
        for text in ("bits 1 1 4", "bits 0 0 1", "bits -1 3", "bits 3 -1", "bits 1 1 -1", "bits 13 0 9999"):
            self.refused(text)
        for text in ("table 0 : 0", "table 1 : 1", "table 2 : 0 -1", "table 2 : 0 1 / 0", "table 2 : 0 / 0 1", "table -1 : 0"):
            self.refused(text)
        self.refused("joined ( skew 1 1 0 0 0 ) ( bits 0 0 )")
        self.refused("joined ( bits 0 0 ) ( joined ( bits 0 0 ) ( table 1 : 1 ) )")

    def test_so_written_and_no_walk(self):
        for text in ("row 0", "column 0", "slant -1", "back -9", "row", "row 1 1", "block 2", "block 0 2", "block 2 -1"):
            self.refused_walk(text)
        for text in ("step 0 0 1", "step 1 1 0", "step 1 1 -2", "step 1 1", "step 1 1 1 1", "block 1 1 1", "step 0 0 5"):
            self.refused_walk(text)
        for text in ("cells 0 0 / 0 0", "cells 1 -2 / 0 0 / 1 -2", "cells 0 0 / 1 1 1"):
            self.refused_walk(text)

    def test_numbers_below_0(self):
        self.assertEqual(walk_of("step -1 -2 3"), ("step", -1, -2, 3))
        self.assertEqual(walk_of("cells -3 -4 / -3 4"), ("cells", ((-3, -4), (-3, 4))))


class NeighbourTests(unittest.TestCase):
    """Texts with a change at one place: each is read rightly, or refused."""

    def check(self, text, read, write, is_right, is_so_written):
        try:
            told = read(text)
        except BadText:
            return None
        self.assertTrue(is_right(told), text)
        self.assertTrue(is_so_written(text), text)
        self.assertEqual(write(told), text)
        return told

    def test_dealings(self):
        read, tuples = 0, 0
        for text in DEALING_TEXTS:
            for other in neighbours(text):
                told = self.check(other, dealing_of, dealing_text, is_dealing, is_dealing_so_written)
                read += told is not None
                if told is None and is_dealing_so_written(other) and re.match("skew|rests", other):
                    kind, *numbers = other.split(" ")
                    self.assertFalse(is_dealing((kind,) + tuple(map(int, numbers))), other)
                    tuples += 1
        self.assertGreater(read, 300)
        self.assertGreater(tuples, 50)

    def test_walks(self):
        read, tuples = 0, 0
        for text in WALK_TEXTS:
            for other in neighbours(text):
                told = self.check(other, walk_of, walk_text, is_walk, is_walk_so_written)
                read += told is not None
                if told is None and is_walk_so_written(other) and not other.startswith("cells"):
                    kind, *numbers = other.split(" ")
                    self.assertFalse(is_walk((kind,) + tuple(map(int, numbers))), other)
                    tuples += 1
        self.assertGreater(read, 300)
        self.assertGreater(tuples, 30)


if __name__ == "__main__":
    unittest.main()

"""[18]: desk.py."""

import unittest

from bankwalk.clashes import clash, clear_starts, loads
from bankwalk.desk import told_by
from bankwalk.dealings import bank_of
from bankwalk.errors import BadRow, BankError
from bankwalk.lanes import lanes_of
from bankwalk.places import place_of, word_at
from bankwalk.rests import longest, rests_of
from bankwalk.texts import dealing_text, walk_text
from bankwalk.turning import turn_plan
from bankwalk.walks import starts
from tests.samples import DEALINGS, SKEW, WALKS, banks_said, places_said, same_kind, size_said, words_said
from tests.test_turning import SQUARES

DEAL = "deal skew 4 5 5 1 2"

# Tables beyond the bounds, to 60 rows and columns.
GREAT = [
    ("skew", 60, 60, 61, 7, 9),
    ("skew", 17, 60, 9999, 9999, 1234),
    ("skew", 60, 1, 33, 101, 0),
    ("rests", 60, 60, 61, 60),
    ("rests", 60, 60, 3601, 1),
    ("rests", 20, 30, 1, 9999),
    ("bits", 5, 5, (1, 2, 4, 8, 16, 1023, 512)),
    ("bits", 5, 5, (3,) * 40),
    ("table", 9999, (tuple(range(9940, 9999)), tuple(range(59)))),
    ("joined", ("skew", 6, 4, 40, 1, 10), ("joined", ("rests", 5, 3, 4, 5), ("bits", 1, 2, (5, 6, 7)))),
    ("joined", ("joined", ("joined", ("skew", 3, 3, 9, 3, 1), ("bits", 1, 1, (1, 2))), ("bits", 1, 1, ())), SKEW),
]


def numbers(*some):
    return " ".join(str(number) for number in some)


def said(dealing, kind, *given):
    """The answer to an ask, by what the other files tell."""
    rows, columns, banks = size_said(dealing)
    by_rests = dealing[0] in ("skew", "rests")
    if kind == "bank":
        i, j = given
        return numbers(bank_of(dealing, given), place_of(dealing, given)) if i < rows and j < columns else "none"
    if kind == "word":
        word = word_at(dealing, *given)
        return "none" if word is None else numbers(*word)
    if kind == "clash":
        told = clash(dealing, given[0])
        return "clear" if told is None else numbers(*told[0], *told[1:])
    if kind == "starts":
        return numbers(len(starts(dealing, given[0])), len(clear_starts(dealing, given[0])))
    if kind == "rests":
        return numbers(*rests_of(dealing, given[0])) if by_rests else "none"
    if kind == "longest":
        return numbers(longest(dealing, *given)) if by_rests else "none"
    if kind == "plan":
        if rows != columns:
            return "none"
        return " / ".join(numbers(*[x for pair in beat for x in pair]) for beat in turn_plan(dealing)) or "-"
    start, walk = given
    if start not in words_said(dealing, walk):
        return "none"
    if kind == "load":
        return numbers(*loads(dealing, walk, start))
    order = lanes_of(dealing, walk, start) if banks <= 16 else None
    return "none" if order is None else numbers(*order)


def written(kind, *given):
    """An ask's row."""
    words = [kind]
    for thing in given:
        if isinstance(thing, int):
            words.append(str(thing))
        else:
            words.append(walk_text(thing) if isinstance(thing[0], str) else numbers(*thing))
    return " ".join(words)


def asks_of(dealing):
    """Asks of every word, some with an answer and some without."""
    rows, columns, banks = size_said(dealing)
    asks = [("bank", i, j) for i in (0, rows - 1, rows, 9999) for j in (0, columns - 1, columns, 9999)]
    asks += [("word", bank, place) for bank in (0, 1, banks - 1, banks, 9999) for place in (0, 1, 5, 9999)]
    asks += [("longest", down, along) for down, along in ((1, 0), (0, 1), (-3, 2), (2, -9999), (15, 15))] + [("plan",)]
    for walk in WALKS:
        asks += [(kind, walk) for kind in ("clash", "starts", "rests")]
        some = starts(dealing, walk)
        for start in some[:2] + some[-1:] + [(-1, 0), (rows, columns), (0, -9999)]:
            asks += [("load", start, walk), ("net", start, walk)]
    return asks


class ToldTests(unittest.TestCase):
    def one(self, deal, ask):
        """The answer to a single ask."""
        told = told_by(f"deal {deal}\n{ask}")
        self.assertEqual(len(told), 1)
        return told[0]

    def test_bank_and_word(self):
        self.assertEqual(self.one("skew 4 5 5 1 2", "bank 1 2"), "0 1")
        self.assertEqual(self.one("skew 4 5 5 1 2", "bank 3 4"), "1 3")
        self.assertEqual(self.one("skew 4 5 5 1 2", "bank 4 0"), "none")
        self.assertEqual(self.one("skew 4 5 5 1 2", "bank 0 5"), "none")
        self.assertEqual(self.one("skew 4 5 5 1 2", "word 0 1"), "1 2")
        self.assertEqual(self.one("skew 4 5 5 1 2", "word 5 0"), "none")
        self.assertEqual(self.one("skew 4 5 5 1 2", "word 0 4"), "none")
        self.assertEqual(self.one("rests 2 3 3 7", "word 1 4"), "1 1")
        self.assertEqual(self.one("rests 2 3 3 7", "word 1 0"), "none")

    def test_clash_and_starts(self):
        self.assertEqual(self.one("skew 4 5 5 1 2", "clash row 5"), "clear")
        self.assertEqual(self.one("skew 4 5 5 1 2", "clash row 40"), "clear")
        self.assertEqual(self.one("skew 4 5 5 1 2", "clash block 2 3"), "0 0 0 5")
        self.assertEqual(self.one("table 2 : 0 1 / 0 0", "clash cells -2 3 / -2 4"), "3 -3 0 1")
        self.assertEqual(self.one("table 2 : 0 1 / 0 0", "starts row 2"), "2 1")
        self.assertEqual(self.one("table 2 : 0 1 / 0 0", "starts row 3"), "0 0")

    def test_rests_and_longest(self):
        self.assertEqual(self.one("skew 4 5 5 1 2", "rests row 5"), "0 2 4 1 3")
        self.assertEqual(self.one("rests 3 4 3 5", "rests step -1 0 2"), "0 2")
        self.assertEqual(self.one("skew 4 5 5 1 2", "longest 1 1"), "5")
        self.assertEqual(self.one("skew 4 5 5 1 2", "longest -1 -2"), "1")
        for deal in ("bits 1 1 1", "table 1 : 0", "joined ( skew 1 1 1 0 0 ) ( skew 1 1 1 0 0 )"):
            self.assertEqual(self.one(deal, "rests row 1"), "none")
            self.assertEqual(self.one(deal, "longest 0 1"), "none")

    def test_load_and_net(self):
        self.assertEqual(self.one("skew 4 5 5 1 2", "load 0 0 block 2 3"), "2 1 1 1 1")
        self.assertEqual(self.one("skew 4 5 5 1 2", "load 3 0 block 2 3"), "none")
        self.assertEqual(self.one("skew 4 5 5 1 2", "load -1 0 row 2"), "none")
        self.assertEqual(self.one("skew 4 5 5 1 2", "load 2 -3 cells -2 3 / -2 4"), "1 0 1 0 0")
        self.assertEqual(self.one("skew 4 5 5 1 2", "net 1 0 row 3"), "1 3 0 2 4 5 6 7")
        self.assertEqual(self.one("skew 4 5 5 1 2", "net 0 0 block 2 3"), "none")
        self.assertEqual(self.one("skew 4 5 5 1 2", "net 0 3 row 3"), "none")
        self.assertEqual(self.one("skew 1 1 1 0 0", "net 0 0 row 1"), "0 1")
        self.assertEqual(self.one("skew 1 2 16 0 1", "net 0 0 row 1"), numbers(*range(16)))
        self.assertEqual(self.one("skew 1 2 17 0 1", "net 0 0 row 1"), "none")
        self.assertEqual(self.one("bits 4 4 1 2 4 8 16", "net 0 0 row 1"), "none")

    def test_plan(self):
        self.assertEqual(self.one("skew 3 3 3 1 1", "plan"), "0 1 / 0 2 / 1 2")
        self.assertEqual(self.one("skew 3 3 9 3 1", "plan"), "0 1 0 2 1 2")
        self.assertEqual(self.one("table 4 : 0 0 0 / 1 0 2 / 1 3 0", "plan"), "0 1 1 2 / 0 2")
        self.assertEqual(self.one("skew 1 1 1 0 0", "plan"), "-")
        self.assertEqual(self.one("bits 0 0", "plan"), "-")
        self.assertEqual(self.one("skew 1 2 1 0 0", "plan"), "none")

    def test_beside_the_other_files(self):
        for dealing in DEALINGS:
            asks = asks_of(dealing)
            sheet = "\n".join([f"deal {dealing_text(dealing)}"] + [written(*ask) for ask in asks])
            told = told_by(sheet)
            self.assertEqual(len(told), len(asks))
            for ask, answer in zip(asks, told):
                with self.subTest(dealing=dealing, ask=ask):
                    self.assertTrue(same_kind(answer, said(dealing, *ask)))

    def test_plans_beside_turning(self):
        for dealing in SQUARES:
            self.assertEqual(self.one(dealing_text(dealing), "plan"), said(dealing, "plan"))

    def test_no_asks(self):
        self.assertEqual(told_by(DEAL), [])
        self.assertEqual(told_by(f"\n\n{DEAL}\n"), [])
        self.assertEqual(told_by(f"{DEAL}\n{DEAL}"), [])

    def test_several_dealings_on_one_sheet(self):
        sheet, answers = [], []
        for dealing in DEALINGS:
            sheet.append(f"deal {dealing_text(dealing)}")
            for ask in asks_of(dealing)[::7]:
                sheet.append(written(*ask))
                answers.append(said(dealing, *ask))
        self.assertEqual(told_by("\n".join(sheet)), answers)
        self.assertEqual(told_by("deal bits 0 1\nplan\ndeal bits 0 0\nplan\nplan\ndeal bits 1 1 1 2\nplan"),
                         ["none", "-", "-", "0 1"])  # fmt: skip

    def test_empty_rows(self):
        self.assertEqual(told_by(f"\n\n{DEAL}\n\n\nbank 1 2\n\nword 0 1\n\n"), ["0 1", "1 2"])

    def test_the_list_is_the_asker_s_own(self):
        sheet = f"{DEAL}\nbank 1 2"
        told = told_by(sheet)
        told.append("spoilt")
        self.assertEqual(told_by(sheet), ["0 1"])


class GreatTests(unittest.TestCase):
    def test_bank_and_word_beyond_the_bounds(self):
        for dealing in GREAT:
            rows, columns, banks = size_said(dealing)
            self.assertLessEqual(max(rows, columns), 60)
            bank, place = banks_said(dealing), None
            if rows * columns < 1000:
                place = places_said(dealing)
            words = [(0, 0), (rows - 1, columns - 1), (rows // 2, columns // 3), (rows - 1, 0), (0, columns - 1)]
            sheet = [f"deal {dealing_text(dealing)}"] + [f"bank {i} {j}" for i, j in words]
            told = told_by("\n".join(sheet + [f"bank {rows} 0", f"bank 0 {columns}"]))
            self.assertEqual(told[5:], ["none", "none"])
            for word, answer in zip(words, told):
                with self.subTest(dealing=dealing, word=word):
                    self.assertEqual(int(answer.split(" ")[0]), bank[word])
                    if place is not None:
                        self.assertEqual(int(answer.split(" ")[1]), place[word])
                    if all(len(number) <= 4 for number in answer.split(" ")):
                        self.assertEqual(told_by(f"{sheet[0]}\nword {answer}"), [numbers(*word)])

    def test_sixty_rows_and_columns(self):
        self.assertEqual(told_by("deal skew 60 60 60 1 1\nbank 59 59\nword 58 59\nbank 60 0"), ["58 59", "59 59", "none"])
        self.assertEqual(told_by("deal rests 60 60 61 60\nbank 59 59\nword 60 59"), ["0 59", "none"])
        self.assertEqual(told_by("deal rests 60 60 61 60\nword 0 59"), ["59 59"])

    def test_joined_to_sixty_brackets(self):
        text = "bits 0 0"
        for _ in range(60):
            text = f"joined ( bits 0 0 ) ( {text} )"
        self.assertEqual(told_by(f"deal {text}\nbank 0 0\nbank 0 1\nword 0 0\nplan"), ["0 0", "none", "0 0", "-"])

    def test_dealings_far_beyond_the_bounds_are_read(self):
        self.assertEqual(told_by("deal bits 9999 9999\ndeal skew 9999 9999 9999 9999 9999"), [])
        self.assertEqual(told_by("deal bits 99 99 1\nnet 0 0 row 1\nload -1 0 row 1"), ["0 1", "none"])


class BadRowTests(unittest.TestCase):
    def refused(self, text, row):
        with self.subTest(text), self.assertRaises(BadRow) as caught:
            told_by(text)
        self.assertEqual(caught.exception.row, row)
        self.assertEqual(type(caught.exception).__bases__, (BankError,))

    def bad(self, row):
        """This row isn't so written, wherever it stands."""
        self.refused(row, 0)
        self.refused(f"{DEAL}\n{row}", 1)
        self.refused(f"\n{DEAL}\n\nbank 0 0\n{row}\nbank 0 0\n{row}", 4)

    def test_only_empty_rows(self):
        self.refused("", 1)
        self.refused("\n", 2)
        self.refused("\n\n\n", 4)

    def test_the_first_row_that_is_not_empty_is_a_deal(self):
        for ask in ("bank 0 0", "plan", "clash row 2", "net 0 0 row 2", "longest 1 1"):
            self.refused(ask, 0)
            self.refused(f"{ask}\n{DEAL}", 0)
            self.refused(f"\n\n{ask}\n{DEAL}\n{ask}", 2)

    def test_ahead_of_all_and_all_rows_counted(self):
        self.refused(f"{DEAL}\nbank 0 0\n\nbank 0\nword 0", 3)
        self.refused(f"\n\n{DEAL}\n\n\nbankk 0 0\n\n", 5)
        self.refused("bank 0\n" + DEAL, 0)
        self.refused(f"{DEAL}\ndeal skew 0 1 1 0 0\nplan", 1)

    def test_blanks(self):
        for row in (" ", "  ", " plan", "plan ", " bank 0 0", "bank 0 0 ", "bank  0 0", "bank 0  0", " " + DEAL, DEAL + " "):
            self.bad(row)
        for row in ("deal", "deal ", "deal  skew 1 1 1 0 0", "clash  row 2", "clash row 2 ", "load 0 0  row 2", "clash row  2"):
            self.bad(row)

    def test_other_words(self):
        for row in ("banks 0 0", "Bank 0 0", "BANK 0 0", "deals skew 1 1 1 0 0", "skew 1 1 1 0 0", "row 2", "none", "-", "0"):
            self.bad(row)
        for row in ("plans", "plan 0", "plan row 2", "loads 0 0 row 2", "start row 2", "rest row 2", "nets 0 0 row 2", "/"):
            self.bad(row)

    def test_how_many_things_are_asked_with(self):
        for row in ("bank", "bank 0", "bank 0 0 0", "word", "word 0", "word 0 0 0", "longest", "longest 1", "longest 1 1 1"):
            self.bad(row)
        for row in ("clash", "starts", "rests", "load", "net", "load 0 0", "net 0 0", "load 0 row 2", "net row 2", "load 0"):
            self.bad(row)
        for row in ("clash row 2 2", "clash 0 0 row 2", "load 0 0 0 row 2", "bank row 2", "plan 1", "clash 5", "load row 2 0 0"):
            self.bad(row)

    def test_plain_figures(self):
        for wrong in ("-1", "-0", "00", "01", "10000", "00000", "+1", "1.0", "a", "-", "", "1_0", "0x1"):
            for row in (f"bank {wrong} 0", f"bank 0 {wrong}", f"word {wrong} 0", f"word 0 {wrong}"):
                self.bad(row)
        self.assertEqual(told_by(f"{DEAL}\nbank 9999 9999\nword 9999 9999"), ["none", "none"])

    def test_figures_with_a_minus_maybe(self):
        for wrong in ("-0", "00", "01", "-01", "10000", "-10000", "--1", "+1", "a", "-", ""):
            for row in (f"load {wrong} 0 row 2", f"load 0 {wrong} row 2", f"net {wrong} 0 row 2", f"net 0 {wrong} row 2"):
                self.bad(row)
            for row in (f"longest {wrong} 1", f"longest 1 {wrong}"):
                self.bad(row)
        told = told_by(f"{DEAL}\nload -9999 -1 row 2\nnet 9999 -9999 row 2\nlongest -9999 9999\nlongest 0 -1\nlongest -5 0")
        self.assertEqual(told, ["none", "none", said(SKEW, "longest", -9999, 9999), "5", "1"])

    def test_not_both_down_and_along_0(self):
        self.bad("longest 0 0")
        self.refused("deal bits 0 0\nlongest 0 0", 1)

    def test_walks_and_dealings_that_are_none(self):
        for walk in ("row 0", "row -1", "step 0 0 1", "cells 0 0 / 0 0", "block 2", "cells", "row 10000", "skew 1 1 1 0 0"):
            for ask in ("clash", "starts", "rests", "load 0 0", "net 0 0"):
                self.bad(f"{ask} {walk}")
        for deal in ("skew 0 1 1 0 0", "rests 2 2 2 2", "bits 0", "table 1 : 1", "joined ( bits 0 0 ) ( bits 0 0", "row 2"):
            self.bad(f"deal {deal}")

    def test_refused_also_where_the_answer_would_be_none(self):
        self.refused("deal bits 1 1\nrests row 0", 1)
        self.refused("deal skew 1 1 99 0 0\nnet 0 0 row 0", 1)
        self.refused("deal skew 1 2 1 0 0\nplan 1", 1)


if __name__ == "__main__":
    unittest.main()

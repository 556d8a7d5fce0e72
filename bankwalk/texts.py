"""Texts of dealings and walks, written and read."""

from bankwalk.dealings import is_dealing
from bankwalk.errors import BadText
from bankwalk.walks import is_walk

FIGURES = "0123456789"
MOST_FIGURES = 4


def in_words(things):
    """The things' texts with one blank between."""
    return " ".join([str(thing) for thing in things])


def in_rows(rows):
    """The text of rows of numbers with a stroke between."""
    return " / ".join([in_words(row) for row in rows])


def dealing_text(dealing):
    """The text of a dealing."""
    kind = dealing[0]
    if kind == "bits":
        return in_words(dealing[:3] + dealing[3])
    if kind == "table":
        return f"table {dealing[1]} : {in_rows(dealing[2])}"
    if kind == "joined":
        return f"joined ( {dealing_text(dealing[1])} ) ( {dealing_text(dealing[2])} )"
    return in_words(dealing)


def walk_text(walk):
    """The text of a walk."""
    if walk[0] == "cells":
        return f"cells {in_rows(walk[1])}"
    return in_words(walk)


def number_of_word(word):
    """The number that a word of a text tells; refused with BadText where it isn't written as numbers are."""
    figures = word[1:] if word.startswith("-") else word
    if not 1 <= len(figures) <= MOST_FIGURES or not all([sign in FIGURES for sign in figures]):
        raise BadText("this is no number of so few figures")
    number = int(word)
    # What is written otherwise than it would be has a 0 ahead, or is a 0 with a minus.
    if str(number) != word:
        raise BadText("this number has a 0 ahead, or is a 0 with a minus")
    return number


def numbers_of(words):
    """The tuple of the numbers that these words tell; refused with BadText."""
    return tuple([number_of_word(word) for word in words])


def rows_of(words):
    """The tuple of the rows of numbers that these words tell, a stroke between; refused with BadText."""
    rows = [[]]
    for word in words:
        if word == "/":
            rows.append([])
        else:
            rows[-1].append(word)
    return tuple([numbers_of(row) for row in rows])


def closing(words):
    """The place of the bracket that closes the one that the words begin with; refused with BadText without one."""
    depth = 0
    for at, word in enumerate(words):
        if word == "(":
            depth += 1
        if word == ")":
            depth -= 1
        if depth == 0:
            return at
    raise BadText("a bracket isn't closed")


def bracketed(words):
    """The words within the brackets that the words begin with, and those behind; refused with BadText."""
    if words[:1] != ["("]:
        raise BadText("a bracket is due")
    end = closing(words)
    return (words[1:end], words[end + 1 :])


def read_table(words):
    """What the words behind `table` tell, whether a dealing or not; refused with BadText."""
    if words[1:2] != [":"]:
        raise BadText("a colon is due behind the banks")
    return ("table", number_of_word(words[0]), rows_of(words[2:]))


def read_joined(words):
    """What the words behind `joined` tell, whether a dealing or not; refused with BadText."""
    one, behind = bracketed(words)
    other, left = bracketed(behind)
    if len(left) > 0:
        raise BadText("nothing stands behind the second bracket")
    return ("joined", read_dealing(one), read_dealing(other))


def read_dealing(words):
    """The tuple that the words tell, whether a dealing or not; refused with BadText."""
    if len(words) == 0:
        raise BadText("a dealing is due")
    kind, *rest = words
    if kind == "joined":
        return read_joined(rest)
    if kind == "table":
        return read_table(rest)
    numbers = numbers_of(rest)
    if kind == "bits":
        return ("bits",) + numbers[:2] + (numbers[2:],)
    return (kind,) + numbers


def dealing_of(text):
    """The dealing that a text tells; refused with BadText where it tells none."""
    dealing = read_dealing(text.split(" "))
    if not is_dealing(dealing):
        raise BadText("this is no dealing")
    return dealing


def walk_of(text):
    """The walk that a text tells; refused with BadText where it tells none."""
    kind, *words = text.split(" ")
    walk = (kind, rows_of(words)) if kind == "cells" else (kind,) + numbers_of(words)
    if not is_walk(walk):
        raise BadText("this is no walk")
    return walk

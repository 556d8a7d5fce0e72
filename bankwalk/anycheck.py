"""Whether papers show that there is no dealing of so many banks, and none of fewer."""

from bankwalk.anyhow import bank_choices, lesser_met, meeting
from bankwalk.basics import is_number, is_number_below
from bankwalk.clashes import clash
from bankwalk.dealings import is_dealing, size_of


def is_tree(many, choices, is_bar, row, thing):
    """Whether thing, which may be anything, is a node that bars all rows of many numbers that begin as row does.

    choices(row) tells how many numbers, from 0 on, may stand behind row; is_bar(row, part) whether part, which may
    be anything, bars row by its last number.
    """
    if len(row) == many or not isinstance(thing, tuple) or len(thing) != choices(row):
        return False
    for number, part in enumerate(thing):
        longer = row + [number]
        if not is_bar(longer, part) and not is_tree(many, choices, is_bar, longer, part):
            return False
    return True


def is_barring(lesser, row, thing):
    """Whether thing, which may be anything, is a word that meets the last one of row and has the same bank."""
    return is_number(thing) and thing in lesser[len(row) - 1] and row[thing] == row[-1]


def shows_no_dealing(rows, columns, banks, walks, thing):
    """Whether thing, which may be anything, is a tree that bars each dealing to these banks."""
    lesser = lesser_met(rows, columns, walks)
    return is_tree(
        rows * columns,
        lambda row: bank_choices(banks, row),
        lambda row, part: is_barring(lesser, row, part),
        [],
        thing,
    )


def is_clear_table(rows, columns, walks, thing):
    """Whether thing, which may be anything, is a table dealing of this size in which all walks are clear."""
    if not is_dealing(thing) or thing[0] != "table" or size_of(thing)[:2] != (rows, columns):
        return False
    return all([clash(thing, walk) is None for walk in walks])


def are_all_met(rows, columns, walks, thing):
    """Whether thing, which may be anything, is a rising tuple of words' numbers that meet pair by pair."""
    if not isinstance(thing, tuple) or not all([is_number_below(number, rows * columns) for number in thing]):
        return False
    pairs = meeting(rows, columns, walks)
    # Pairs that meet rise themselves, so nothing else need be asked about the order.
    return all([(x, y) in pairs for at, y in enumerate(thing) for x in thing[:at]])


def shows_least(rows, columns, walks, thing):
    """Whether thing, which may be anything, is a pair (dealing, paper) that shows the least banks."""
    if not isinstance(thing, tuple) or len(thing) != 2 or not is_clear_table(rows, columns, walks, thing[0]):
        return False
    banks, paper = thing[0][1], thing[1]
    if not isinstance(paper, tuple) or len(paper) != 2:
        return False
    if paper[0] == "words":
        return are_all_met(rows, columns, walks, paper[1]) and len(paper[1]) == banks
    return paper[0] == "cases" and banks >= 2 and shows_no_dealing(rows, columns, banks - 1, walks, paper[1])

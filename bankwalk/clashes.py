"""Clashes: from which starts two words of a walk are in one bank."""

from bankwalk.basics import are_alike, first_alike
from bankwalk.dealings import bank_in, size_of
from bankwalk.walks import is_start, starts, words_of


def banks_from(dealing, walk, start):
    """The list of the banks of the walk's words from this start; refused with NoStart where it isn't one."""
    return [bank_in(dealing, word) for word in words_of(dealing, walk, start)]


def clash(dealing, walk):
    """None where the walk is clear, else (start, k, l): the first start with a clash, the least two cells there."""
    for start in starts(dealing, walk):
        found = first_alike(banks_from(dealing, walk, start))
        if found is not None:
            return (start, found[0], found[1])
    return None


def shows_clash(dealing, walk, thing):
    """Whether thing, which may be anything, is a tuple (start, k, l) of two cells in one bank."""
    if not isinstance(thing, tuple) or len(thing) != 3:
        return False
    start, k, l = thing
    return is_start(dealing, walk, start) and are_alike(banks_from(dealing, walk, start), k, l)


def loads(dealing, walk, start):
    """The list with for each bank how many of the walk's words are in it; refused with NoStart."""
    rows, columns, banks = size_of(dealing)
    told = [0 for bank in range(banks)]
    for bank in banks_from(dealing, walk, start):
        told[bank] += 1
    return told


def clear_starts(dealing, walk):
    """The rising list of the starts from which the walk doesn't clash."""
    return [start for start in starts(dealing, walk) if first_alike(banks_from(dealing, walk, start)) is None]

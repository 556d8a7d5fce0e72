"""Walks: which words are asked for at once, and from which starts."""

from bankwalk.basics import are_at_least, is_at_least, is_number, is_pair
from bankwalk.dealings import is_word, size_of
from bankwalk.errors import NoStart

# How far down and along each cell lies from the one ahead of it.
STRIDES = {"row": (0, 1), "column": (1, 0), "slant": (1, 1), "back": (1, -1)}


def is_step(thing):
    """Whether the tuple thing goes on as a step walk does."""
    if len(thing) != 4 or not is_number(thing[1]) or not is_number(thing[2]):
        return False
    return (thing[1] != 0 or thing[2] != 0) and is_at_least(thing[3], 1)


def is_cells(thing):
    """Whether the tuple thing goes on as a cells walk does."""
    if len(thing) != 2 or not isinstance(thing[1], tuple) or len(thing[1]) == 0:
        return False
    if not all([is_pair(cell) for cell in thing[1]]):
        return False
    return len(set(thing[1])) == len(thing[1])


def is_walk(thing):
    """Whether thing, which may be anything, is a walk."""
    # A list can't be looked up among the strides, so texts alone get there.
    if not isinstance(thing, tuple) or len(thing) == 0 or not isinstance(thing[0], str):
        return False
    kind = thing[0]
    if kind in STRIDES:
        return len(thing) == 2 and is_at_least(thing[1], 1)
    if kind == "block":
        return len(thing) == 3 and are_at_least(thing[1:], 1)
    if kind == "step":
        return is_step(thing)
    return kind == "cells" and is_cells(thing)


def strung(down, along, many):
    """The list of that many cells, each as far down and along from the one ahead of it."""
    return [(t * down, t * along) for t in range(many)]


def cells_of(walk):
    """The list of the walk's cells, in order."""
    kind = walk[0]
    if kind == "cells":
        return list(walk[1])
    if kind == "block":
        return [(p, q) for p in range(walk[1]) for q in range(walk[2])]
    if kind == "step":
        return strung(walk[1], walk[2], walk[3])
    down, along = STRIDES[kind]
    return strung(down, along, walk[1])


def starts(dealing, walk):
    """The rising list of the walk's starts."""
    rows, columns, banks = size_of(dealing)
    cells = cells_of(walk)
    downs = [p for p, q in cells]
    alongs = [q for p, q in cells]
    # Every cell is in the table as soon as the outermost ones are, down and along apart.
    return [
        (i, j)
        for i in range(-min(downs), rows - max(downs))
        for j in range(-min(alongs), columns - max(alongs))
    ]


def shifted(walk, start):
    """The list of the walk's cells laid at this pair, whether they are words or not."""
    return [(start[0] + p, start[1] + q) for p, q in cells_of(walk)]


def is_start(dealing, walk, thing):
    """Whether thing, which may be anything, is a start of the walk."""
    return is_pair(thing) and all([is_word(dealing, word) for word in shifted(walk, thing)])


def words_of(dealing, walk, start):
    """The list of the walk's words from this start; refused with NoStart where it isn't one."""
    if not is_start(dealing, walk, start):
        raise NoStart("from there some cell is no word of the table")
    return shifted(walk, start)

"""Joined: walks spread over one another, and what joined dealings are made of."""

from bankwalk.dealings import bank_in, parted, size_of
from bankwalk.errors import NoWalk
from bankwalk.walks import cells_of, is_walk


def spread(one, other, rows, columns):
    """The cells walk of other's cells at each of one's, so far apart; refused with NoWalk where two are alike."""
    pairs = [(p * rows + r, q * columns + t) for p, q in cells_of(one) for r, t in cells_of(other)]
    walk = ("cells", tuple(pairs))
    if not is_walk(walk):
        raise NoWalk("two cells of the walk that is spread are alike")
    return walk


def split(dealing, start):
    """The pair of one's word and other's of which a word of a joined dealing is made."""
    rows, columns, banks = size_of(dealing[2])
    return parted(start, rows, columns)


def flat_table(dealing):
    """The table dealing with the same banks, word by word."""
    rows, columns, banks = size_of(dealing)
    cells = [tuple([bank_in(dealing, (i, j)) for j in range(columns)]) for i in range(rows)]
    return ("table", banks, tuple(cells))

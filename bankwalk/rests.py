"""Rests: what a skew or rests dealing tells of a walk, however great the table."""

from bankwalk.basics import first_alike
from bankwalk.walks import cells_of, starts


def factors_of(dealing):
    """The pair of what a cell's way down and its way along are multiplied by."""
    if dealing[0] == "rests":
        return (dealing[2], 1)
    return (dealing[4], dealing[5])


def rests_by(banks, factors, walk):
    """The tuple of the walk's rests by these banks and factors."""
    a, b = factors
    return tuple([(a * p + b * q) % banks for p, q in cells_of(walk)])


def rests_of(dealing, walk):
    """The tuple of the walk's rests."""
    return rests_by(dealing[3], factors_of(dealing), walk)


def is_unlike(dealing, walk):
    """Whether no two of the walk's rests are alike."""
    return first_alike(rests_of(dealing, walk)) is None


def longest(dealing, down, along):
    """The greatest many for which the rests of ("step", down, along, many) are unlike."""
    a, b = factors_of(dealing)
    many = 1
    # The first rest that comes again is that of the first cell, which is 0.
    while many * (a * down + b * along) % dealing[3] != 0:
        many += 1
    return many


def widest(dealing, high):
    """The greatest wide for which the rests of ("block", high, wide) are unlike, 0 where there is none."""
    wide = 0
    while is_unlike(dealing, ("block", high, wide + 1)):
        wide += 1
    return wide


def blocks(dealing):
    """The list with for each high from 1 to banks the greatest wide of a block whose rests are unlike."""
    return [widest(dealing, high) for high in range(1, dealing[3] + 1)]


def is_free(dealing, walk):
    """Whether the walk has a start and is clear."""
    return len(starts(dealing, walk)) > 0 and is_unlike(dealing, walk)


def free_steps(dealing, many):
    """The rising list of the pairs (down, along) by which a walk of that many cells has a start and is clear."""
    rows, columns = dealing[1:3]
    return [
        (down, along)
        for down in range(rows)
        for along in range(1 - columns, columns)
        if (down > 0 or along > 0) and is_free(dealing, ("step", down, along, many))
    ]

"""Dealings and walks that the tests share, and what the document says of them, reckoned apart from the program."""

SKEW = ("skew", 4, 5, 5, 1, 2)
RESTS = ("rests", 3, 4, 3, 5)
BITS = ("bits", 2, 3, (0b00101, 0b11010))
TABLE = ("table", 3, ((0, 2, 0), (1, 1, 2)))
JOINED = ("joined", ("skew", 2, 3, 3, 1, 1), ("table", 2, ((0, 1), (1, 1), (0, 0))))

DEALINGS = [
    SKEW,
    ("skew", 1, 1, 1, 0, 0),
    ("skew", 3, 4, 7, 0, 0),
    ("skew", 16, 16, 32, 99, 98),
    ("skew", 2, 3, 5, 7, 11),
    RESTS,
    ("rests", 1, 1, 1, 1),
    ("rests", 2, 3, 2, 3),
    ("rests", 2, 3, 3, 2),
    ("rests", 2, 3, 1, 6),
    ("rests", 2, 2, 9, 1),
    ("rests", 2, 5, 3, 8),
    ("rests", 16, 16, 17, 16),
    BITS,
    ("bits", 0, 0, ()),
    ("bits", 0, 0, (0,)),
    ("bits", 0, 2, (1, 2)),
    ("bits", 2, 0, (3, 3, 0)),
    ("bits", 1, 2, (7,)),
    ("bits", 4, 4, (0x11, 0x22, 0x44, 0x88, 0xFF)),
    TABLE,
    ("table", 1, ((0,),)),
    ("table", 9, ((8,), (0,), (8,))),
    JOINED,
    ("joined", RESTS, BITS),
    ("joined", ("rests", 2, 3, 2, 3), ("rests", 3, 2, 3, 2)),
    ("joined", ("joined", ("bits", 1, 0, (1,)), TABLE), ("skew", 2, 1, 2, 1, 0)),
    ("joined", ("skew", 1, 2, 2, 0, 1), ("joined", TABLE, ("rests", 1, 2, 2, 1))),
]

WALKS = [
    ("row", 1),
    ("row", 4),
    ("column", 1),
    ("column", 3),
    ("slant", 3),
    ("back", 1),
    ("back", 3),
    ("block", 1, 1),
    ("block", 2, 3),
    ("block", 3, 1),
    ("step", 1, 2, 2),
    ("step", -1, 1, 3),
    ("step", 0, -2, 2),
    ("step", 15, -15, 2),
    ("step", 2, 0, 1),
    ("cells", ((0, 0),)),
    ("cells", ((3, 3),)),
    ("cells", ((0, 1), (1, 0), (-1, 0), (0, -1))),
    ("cells", ((-2, 5), (-1, 4))),
    ("row", 17),
    ("column", 40),
]

# No word of any table, and no start of any walk: what is no pair of numbers.
NO_PAIRS = [
    None,
    True,
    False,
    0,
    -1,
    "",
    "00",
    "ab",
    (),
    [],
    (0,),
    (0, 0, 0),
    [0, 0],
    [[0, 0]],
    ((0, 0),),
    (True, 0),
    (0, True),
    (False, 0),
    (0, False),
    (None, 0),
    (0, None),
    ("0", 0),
    (0, "0"),
    ((0,), 0),
    (0, [0]),
]

# What is never a number.
NO_NUMBERS = [True, False, None, "", "1", "skew", (), (1,), [], [1], ((1, 2),)]


def put(row, at, thing):
    """The tuple row with thing at this place."""
    return row[:at] + (thing,) + row[at + 1 :]


def nested(depth):
    """A list and a tuple, each that many deep."""
    some, other = [1], (1,)
    for _ in range(depth - 1):
        some, other = [some], (other,)
    return [some, other]


# Things that are neither dealings nor walks, of all kinds that a question may be of.
NO_TUPLES_OF_WORDS = [
    None,
    True,
    False,
    0,
    1,
    -5,
    10**30,
    "",
    "skew",
    "row",
    "skew 4 5 5 1 2",
    "row 4",
    [],
    (),
    [()],
    ([],),
    (None,),
    (True,),
    (0, 4),
    (None, 4),
    (True, 4),
    ((), 4),
    ([], 4),
    (["skew"], 4, 5, 5, 1, 2),
    (["row"], 4),
    (("row",), 4),
    (("row", 4),),
    *nested(20),
]


def numbered(rows, columns):
    """The words of a table by their numbers."""
    words = {}
    for i in range(rows):
        for j in range(columns):
            words[i * columns + j] = (i, j)
    return words


def odd(number):
    return bin(number).count("1") % 2 == 1


def size_said(dealing):
    """(rows, columns, banks) by the document."""
    kind, *rest = dealing
    if kind in ("skew", "rests"):
        return tuple(rest[:3])
    if kind == "bits":
        high, low, masks = rest
        return (2**high, 2**low, 2 ** len(masks))
    if kind == "table":
        banks, cells = rest
        return (len(cells), len(cells[0]), banks)
    return tuple(x * y for x, y in zip(size_said(rest[0]), size_said(rest[1])))


def banks_said(dealing):
    """Each word's bank by the document."""
    kind, *rest = dealing
    rows, columns, banks = size_said(dealing)
    words = numbered(rows, columns)
    if kind == "skew":
        a, b = rest[3:]
        return {(i, j): (a * i + b * j) % banks for i, j in words.values()}
    if kind == "rests":
        return {word: number % banks for number, word in words.items()}
    if kind == "bits":
        masks = rest[2]
        return {
            word: sum(2**t for t in range(len(masks)) if odd(number & masks[t])) for number, word in words.items()
        }
    if kind == "table":
        return {(i, j): rest[1][i][j] for i, j in words.values()}
    return joined_banks_said(rest[0], rest[1])


def joined_banks_said(one, other):
    """Built up word by word from one's and other's, with no division."""
    rows, columns, banks = size_said(other)
    joined = {}
    for (p, r), upper in banks_said(one).items():
        for (q, t), lower in banks_said(other).items():
            joined[(p * rows + q, r * columns + t)] = upper * banks + lower
    return joined


def places_said(dealing):
    """Each word's place by the document."""
    rows, columns, _ = size_said(dealing)
    words = numbered(rows, columns)
    if dealing[0] == "rests":
        return {word: number % dealing[4] for number, word in words.items()}
    banks = banks_said(dealing)
    return {
        word: len([lesser for lesser in range(number) if banks[words[lesser]] == banks[word]])
        for number, word in words.items()
    }


def lists_in(thing):
    """All lists that thing bears, itself too."""
    if isinstance(thing, list):
        return [thing] + [x for part in thing for x in lists_in(part)]
    if isinstance(thing, tuple):
        return [x for part in thing for x in lists_in(part)]
    return []


def same_kind(one, other):
    """Whether both are equal and of the same kinds through and through (so 1 isn't True, a tuple no list)."""
    if type(one) is not type(other):
        return False
    if isinstance(one, (list, tuple)):
        return len(one) == len(other) and all(same_kind(x, y) for x, y in zip(one, other))
    return one == other


def cells_said(walk):
    """The walk's cells by the document."""
    kind, *rest = walk
    if kind == "cells":
        return list(rest[0])
    if kind == "block":
        return [(p, q) for p in range(rest[0]) for q in range(rest[1])]
    down, along = {"row": (0, 1), "column": (1, 0), "slant": (1, 1), "back": (1, -1)}.get(kind, rest[:2])
    return [(t * down, t * along) for t in range(rest[-1])]


def words_said(dealing, walk):
    """For each start of the walk, as they rise, the words from there; each word is tried for the first cell."""
    rows, columns, _ = size_said(dealing)
    cells = cells_said(walk)
    told = {}
    for x, y in numbered(rows, columns).values():
        i, j = x - cells[0][0], y - cells[0][1]
        words = [(i + p, j + q) for p, q in cells]
        if all(0 <= p < rows and 0 <= q < columns for p, q in words):
            told[(i, j)] = words
    return told


def alike_said(things):
    """All pairs (k, l), k below l, of numbers of things that are alike, as they rise."""
    return [(k, l) for k in range(len(things)) for l in range(k + 1, len(things)) if things[k] == things[l]]


def changed(thing):
    """Things that are like thing, but for one of the numbers, tuples or lists that it bears."""
    told = [None, True, False, "", [thing], (thing,)]
    if isinstance(thing, (list, tuple)):
        kind, other = (list, tuple) if isinstance(thing, list) else (tuple, list)
        told += [other(thing), thing + kind([0]), thing + kind([None]), thing[1:], thing[:-1]] if thing else []
        for at, part in enumerate(thing):
            told += [thing[:at] + kind([x]) + thing[at + 1 :] for x in changed(part)]
    elif isinstance(thing, int):
        told += [-1 - thing, str(thing), 10**20 + thing]
    return told

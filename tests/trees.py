"""Trees that bar each dealing, or each image, by the document, reckoned apart from the program."""

import itertools
from functools import reduce
from operator import xor

from tests.samples import words_said

# Five words in a ring: each meets the two beside it, so that three banks are needed and no three words meet.
RING = [("row", 2), ("step", 0, 4, 2)]

SIZES = [(1, 1), (1, 2), (2, 1), (1, 3), (2, 2), (1, 5), (2, 3), (3, 2), (6, 1)]

WALK_LISTS = [
    [],
    [("row", 1)],
    [("row", 2)],
    [("row", 3), ("column", 2)],
    [("row", 2), ("column", 2), ("slant", 2), ("back", 2)],
    [("block", 2, 2)],
    [("row", 2), ("step", 1, 2, 2)],
    [("step", 0, 2, 2), ("step", 0, 3, 2)],
    RING,
    [("row", 2), ("step", 1, -2, 2), ("cells", ((2, 1), (1, 2), (0, 0)))],
    [("cells", ((0, 0), (1, 1))), ("column", 2), ("row", 2), ("step", 0, 2, 2)],
]


def meeting_said(rows, columns, walks):
    """The pairs of words' numbers that meet, as they rise, by a look at all starts."""
    met = set()
    for walk in walks:
        for words in words_said(("skew", rows, columns, 1, 0, 0), walk).values():
            numbers = [i * columns + j for i, j in words]
            met |= {(x, y) for x, y in itertools.permutations(numbers, 2) if x < y}
    return sorted(met)


def next_banks(banks, row):
    """The banks that are asked about for the word behind row."""
    free = min(bank for bank in range(len(row) + 1) if bank not in row)
    return [bank for bank in range(free + 1) if bank < banks]


def next_numbers(bits, row):
    """The numbers of an image that are asked about behind row."""
    power = min(2**k for k in range(40) if all(2**k > number for number in row))
    return [number for number in range(power + 1) if number < 2**bits]


def bank_bars(met, row):
    """The words that bar the bank of row's last one."""
    x = len(row) - 1
    return [y for y in range(x) if row[y] == row[x] and (y, x) in met]


def image_said(numbers, x):
    """What an image leads x to."""
    return reduce(xor, [number for t, number in enumerate(numbers) if x & 2**t], 0)


def flips_said(spans):
    """All flips of the spans but of s = 0."""
    told = []
    for span in spans:
        for many in range(1, len(span) + 1):
            told += [reduce(xor, marks) for marks in itertools.combinations(span, many)]
    return told


def image_bars(spans, row):
    """The flips that are led to 0 as soon as row's last number stands."""
    end = 2 ** len(row)
    return [flip for flip in flips_said(spans) if end // 2 <= flip < end and image_said(row, flip) == 0]


def is_tree_said(many, following, bars, row, thing):
    """Whether thing is a node that is asked of what stands behind row."""
    if len(row) >= many or type(thing) is not tuple:
        return False
    numbers = following(row)
    if len(numbers) != len(thing):
        return False
    for number, part in zip(numbers, thing):
        if type(part) is int:
            if part not in bars(row + [number]):
                return False
        elif not is_tree_said(many, following, bars, row + [number], part):
            return False
    return True


def is_dealing_tree(many, banks, met, thing):
    """Whether thing is a tree that bars each dealing of that many words."""
    return is_tree_said(many, lambda row: next_banks(banks, row), lambda row: bank_bars(met, row), [], thing)


def is_image_tree(wide, bits, spans, thing):
    """Whether thing is a tree that bars each image."""
    return is_tree_said(wide, lambda row: next_numbers(bits, row), lambda row: image_bars(spans, row), [], thing)


def late_tree(many, following, bars, row, last):
    """A tree that bars as late as it can, by the last bar or by the first one; None where there is none."""
    if len(row) >= many:
        return None
    node = []
    for number in following(row):
        longer = row + [number]
        part = late_tree(many, following, bars, longer, last)
        if part is None:
            if not bars(longer):
                return None
            part = bars(longer)[-1 if last else 0]
        node.append(part)
    return tuple(node)


def late_dealing_trees(many, banks, met):
    """Trees that bar each dealing as late as they can."""
    return [
        late_tree(many, lambda row: next_banks(banks, row), lambda row: bank_bars(met, row), [], last)
        for last in (False, True)
    ]


def late_image_trees(wide, bits, spans):
    """Trees that bar each image as late as they can."""
    return [
        late_tree(wide, lambda row: next_numbers(bits, row), lambda row: image_bars(spans, row), [], last)
        for last in (False, True)
    ]


def span_lists():
    """Pairs of wide and spans, each span's flips unlike 0, in some order that stays the same."""
    told = []
    for wide in range(1, 6):
        some = [[]]
        for many in (1, 2, 3):
            for marks in itertools.combinations(range(1, 2**wide), many):
                if 0 not in flips_said([list(marks)]):
                    some.append(list(marks) if sum(marks) % 2 else list(marks[::-1]))
        told += [(wide, []), (wide, [[]]), (wide, [[1]]), (wide, [[2**wide - 1], [1]])]
        told += [(wide, [[2**t] for t in range(min(wide, 4))]), (wide, [[mark] for mark in range(1, min(2**wide, 5))])]
        for at in range(12):
            picked = [list(some[(7 * at * at + 13 * at * k + 5 * k) % len(some)]) for k in range(1 + at % 4)]
            told.append((wide, picked))
    return told + NEED_MORE


# Spans that need one bit more than any of them has marks.
NEED_MORE = [
    (3, [[1], [2], [3], [7]]),
    (5, [[1], [2], [3], [16]]),
    (4, [[2, 1], [7, 6], [13, 4], [2, 5]]),
    (5, [[9, 15, 13], [26, 1, 30], [18, 30, 22], [23, 19]]),
]

"""Turning: tables turned in place, beat by beat, so that no bank is asked for two words at once."""

from bankwalk.dealings import bank_in, number_of, size_of
from bankwalk.errors import NotSquare
from bankwalk.places import spots_of


def is_square(dealing):
    """Whether the table has as many rows as columns."""
    rows, columns, banks = size_of(dealing)
    return rows == columns


def refuse_not_square(dealing):
    """Refuses with NotSquare where the table hasn't as many rows as columns."""
    if not is_square(dealing):
        raise NotSquare("the table hasn't as many rows as columns")


def all_pairs(dealing):
    """The rising list of the pairs (i, j), i below j, of a square table."""
    rows, columns, banks = size_of(dealing)
    return [(i, j) for i in range(rows) for j in range(i + 1, columns)]


def beat_banks(dealing, pairs):
    """The list of the banks of the words of these pairs, two for each."""
    return [bank_in(dealing, word) for i, j in pairs for word in [(i, j), (j, i)]]


def is_beat(dealing, pairs):
    """Whether no two words of these pairs are in one bank, but of a pair that stands alone."""
    banks = beat_banks(dealing, pairs)
    return len(pairs) < 2 or len(set(banks)) == len(banks)


def first_beat(dealing, plan, pair):
    """The number of the first beat of the plan into which the pair may be put, that of a new one without any."""
    for at, beat in enumerate(plan):
        if is_beat(dealing, beat + [pair]):
            return at
    return len(plan)


def turn_plan(dealing):
    """The plan of the pairs, rising, each in the first beat into which it may be put; refused with NotSquare."""
    refuse_not_square(dealing)
    plan = []
    for pair in all_pairs(dealing):
        at = first_beat(dealing, plan, pair)
        if at == len(plan):
            plan.append([])
        plan[at].append(pair)
    return plan


def turned(dealing, plan, memory):
    """The memory in which the worths of each pair's words are exchanged, beat by beat; refused with NotSquare."""
    refuse_not_square(dealing)
    spots = spots_of(dealing)
    told = [list(shelf) for shelf in memory]
    for beat in plan:
        for i, j in beat:
            bank, place = spots[number_of(dealing, (i, j))]
            other_bank, other_place = spots[number_of(dealing, (j, i))]
            worth = told[bank][place]
            told[bank][place] = told[other_bank][other_place]
            told[other_bank][other_place] = worth
    return told

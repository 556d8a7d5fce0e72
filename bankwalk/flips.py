"""Flips: which words marks lead to in a bits dealing, and whether these are in unlike banks."""

from bankwalk.basics import is_number_below
from bankwalk.dealings import bits_bank, odd_in_common


def flips(marks):
    """The list of all flips of the marks, by their numbers."""
    told = [0]
    for mark in marks:
        told = told + [flip ^ mark for flip in told]
    return told


def stairs(numbers):
    """Numbers of unlike highest bits that make the same sums without carry as numbers do."""
    kept = []
    for number in numbers:
        left = number
        # What is kept hasn't the highest bits of what was kept ahead of it, so none of these comes back.
        for stair in kept:
            left = min(left, left ^ stair)
        if left > 0:
            kept.append(left)
    return kept


def rank_of(numbers):
    """How many of the numbers there are at most of which no sum without carry of one or more is 0."""
    return len(stairs(numbers))


def mark_banks(dealing, marks):
    """The list of the banks of the words whose numbers are the marks."""
    return [bits_bank(dealing[3], mark) for mark in marks]


def flip_clash(dealing, marks):
    """None where the flips are clear, else the least number above 0 of a flip whose word is in bank 0."""
    for s, bank in enumerate(mark_banks(dealing, flips(marks))):
        if s > 0 and bank == 0:
            return s
    return None


def tells_apart(number, banks, at):
    """Whether number has an odd number of bits in common with the bank there, and an even one with all others."""
    return all([odd_in_common(number, bank) == (t == at) for t, bank in enumerate(banks)])


def flip_paper(dealing, marks):
    """None where the flips clash, else a list with for each mark a number that tells its bank from the others'."""
    if flip_clash(dealing, marks) is not None:
        return None
    banks = mark_banks(dealing, marks)
    # The highest bits of the stairs are as many as the banks and tell them apart, so no other bits are needed.
    tried = flips([1 << (stair.bit_length() - 1) for stair in stairs(banks)])
    return [[number for number in tried if tells_apart(number, banks, t)][0] for t in range(len(banks))]


def shows_flips(dealing, marks, thing):
    """Whether thing, which may be anything, is a list as flip_paper tells it."""
    if not isinstance(thing, list) or len(thing) != len(marks):
        return False
    if not all([is_number_below(number, 1 << len(dealing[3])) for number in thing]):
        return False
    banks = mark_banks(dealing, marks)
    return all([tells_apart(number, banks, t) for t, number in enumerate(thing)])

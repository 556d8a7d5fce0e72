"""Skews: factors by which the rests of several walks are unlike, or what bars each pair of them."""

from bankwalk.basics import are_alike, first_alike, is_number_below
from bankwalk.rests import rests_by


def all_factors(banks):
    """The rising list of the pairs (a, b) of numbers below banks."""
    return [(a, b) for a in range(banks) for b in range(banks)]


def first_bar(banks, factors, walks):
    """The tuple (n, k, l) of the first walk with two rests that are alike, None where no walk has any."""
    for n, walk in enumerate(walks):
        found = first_alike(rests_by(banks, factors, walk))
        if found is not None:
            return (n, found[0], found[1])
    return None


def skew_for(banks, walks):
    """("skew", a, b) of the first pair by which each walk's rests are unlike, or ("none", bars)."""
    bars = []
    for factors in all_factors(banks):
        bar = first_bar(banks, factors, walks)
        if bar is None:
            return ("skew", factors[0], factors[1])
        bars.append(bar)
    return ("none", bars)


def is_bar(banks, factors, walks, thing):
    """Whether thing, which may be anything, is a tuple (n, k, l) of two rests of a walk that are alike."""
    if not isinstance(thing, tuple) or len(thing) != 3:
        return False
    n, k, l = thing
    return is_number_below(n, len(walks)) and are_alike(rests_by(banks, factors, walks[n]), k, l)


def shows_no_skew(banks, walks, thing):
    """Whether thing, which may be anything, is a list with a bar for each pair (a, b)."""
    if not isinstance(thing, list) or len(thing) != banks * banks:
        return False
    return all([is_bar(banks, factors, walks, bar) for factors, bar in zip(all_factors(banks), thing)])


def least_skew(walks, most):
    """(banks, a, b, bars) of the least banks up to most with bars of all lesser ones; None where there are none."""
    bars = []
    for banks in range(1, most + 1):
        told = skew_for(banks, walks)
        if told[0] == "skew":
            return (banks, told[1], told[2], bars)
        bars.append(told[1])
    return None

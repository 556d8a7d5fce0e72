"""Whether plans turn a table, each pair once, with no bank asked for two words at once."""

from bankwalk.basics import is_pair
from bankwalk.turning import all_pairs, is_beat, is_square


def is_list_of_lists(thing):
    """Whether thing, which may be anything, is a list of lists."""
    return isinstance(thing, list) and all([isinstance(part, list) for part in thing])


def shows_plan(dealing, thing):
    """Whether thing, which may be anything, is a plan; False where the table isn't square."""
    if not is_square(dealing) or not is_list_of_lists(thing):
        return False
    pairs = [pair for beat in thing for pair in beat]
    if not all([is_pair(pair) for pair in pairs]) or sorted(pairs) != all_pairs(dealing):
        return False
    return all([is_beat(dealing, beat) for beat in thing])

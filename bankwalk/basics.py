"""What numbers and pairs are, and which things are alike, for all files of the package."""


def is_number(thing):
    """Whether thing is a whole number; True and False are none."""
    return isinstance(thing, int) and not isinstance(thing, bool)


def is_at_least(thing, least):
    """Whether thing is a number that isn't below least."""
    return is_number(thing) and thing >= least


def are_at_least(things, least):
    """Whether each of things is a number that isn't below least."""
    return all([is_at_least(thing, least) for thing in things])


def is_pair(thing):
    """Whether thing is a tuple of two numbers."""
    return isinstance(thing, tuple) and len(thing) == 2 and is_number(thing[0]) and is_number(thing[1])


def is_number_below(thing, end):
    """Whether thing is a number from 0 to below end."""
    return is_number(thing) and 0 <= thing < end


def first_alike(things):
    """The least numbers (k, l), k below l, of two of the things that are alike, None where there are none."""
    for k in range(len(things)):
        for l in range(k + 1, len(things)):
            if things[k] == things[l]:
                return (k, l)
    return None


def are_alike(things, k, l):
    """Whether k and l, which may be anything, are the numbers, k below l, of two of the things that are alike."""
    if not is_number_below(k, len(things)) or not is_number_below(l, len(things)):
        return False
    return k < l and things[k] == things[l]

"""What numbers and pairs are, for all files of the package."""


def is_number(thing):
    """Whether thing is a whole number; True and False are none."""
    return isinstance(thing, int) and not isinstance(thing, bool)


def is_at_least(thing, least):
    """Whether thing is a number that isn't below least."""
    return is_number(thing) and thing >= least


def are_at_least(things, least):
    """Whether each of things is a number that isn't below least."""
    return all([is_at_least(thing, least) for thing in things])


def is_pair(thing):
    """Whether thing is a tuple of two numbers."""
    return isinstance(thing, tuple) and len(thing) == 2 and is_number(thing[0]) and is_number(thing[1])

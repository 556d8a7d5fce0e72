"""Whether papers show that there is no image of so many bits, and the dealings that images are."""

from bankwalk.anycheck import is_tree
from bankwalk.basics import is_number
from bankwalk.masks import image_choices, is_led_to_0, span_flips


def is_lost(away, row, thing):
    """Whether thing, which may be anything, is one of the flips and is led to 0 by row's last number."""
    return is_number(thing) and thing in away and is_led_to_0(row, thing)


def shows_no_image(wide, bits, spans, thing):
    """Whether thing, which may be anything, is a tree that bars each image of so many bits."""
    away = span_flips(spans)
    return is_tree(
        wide,
        lambda row: image_choices(bits, row),
        lambda row, part: is_lost(away, row, part),
        [],
        thing,
    )


def mask_at(numbers, k):
    """The mask of bit k of banks: the sum of 2 ** t for each number t that has bit k."""
    return sum([1 << t for t, number in enumerate(numbers) if (number >> k) & 1 == 1])


def dealing_by(high, low, numbers):
    """The bits dealing whose banks are what these numbers lead words' numbers to."""
    many = max(numbers, default=0).bit_length()
    return ("bits", high, low, tuple([mask_at(numbers, k) for k in range(many)]))

"""Images: numbers that lead the flips of several spans away from 0, or trees that bar each one."""

from bankwalk.anyhow import searched
from bankwalk.flips import flips


def led_to(numbers, x):
    """What the image of these numbers leads x to."""
    told = 0
    for t, number in enumerate(numbers):
        if (x >> t) & 1 == 1:
            told = told ^ number
    return told


def span_flips(spans):
    """The list of the flips of all spans, but of s = 0."""
    return [flip for span in spans for flip in flips(span)[1:]]


def image_choices(bits, row):
    """How many numbers are asked about behind those of row."""
    # The least power of two above all of row is 2 to the greatest one's number of bits.
    power = 1 << max(row, default=0).bit_length()
    return min(power + 1, 1 << bits)


def is_led_to_0(row, flip):
    """Whether the flip's highest bit is that of the last number of row, and it is led to 0."""
    return flip.bit_length() == len(row) and led_to(row, flip) == 0


def first_led_to_0(away, row):
    """The first of the flips whose highest bit is that of the last number of row and that is led to 0, or None."""
    for flip in away:
        if is_led_to_0(row, flip):
            return flip
    return None


def image_for(wide, bits, spans):
    """("image", numbers) of the least image that serves, or ("none", paper)."""
    away = span_flips(spans)
    kind, found = searched(
        wide,
        lambda row: image_choices(bits, row),
        lambda row: first_led_to_0(away, row),
        [],
    )
    if kind == "none":
        return ("none", found)
    return ("image", found)


def least_bits(wide, spans):
    """(bits, numbers, paper) of the least bits for which there is an image."""
    bits = 0
    paper = None
    told = image_for(wide, bits, spans)
    while told[0] == "none":
        paper = told[1]
        bits += 1
        told = image_for(wide, bits, spans)
    # A span's flips alone need as many bits as it has marks, so nothing else need bar one bit fewer.
    if bits in [len(span) for span in spans]:
        paper = None
    return (bits, told[1], paper)

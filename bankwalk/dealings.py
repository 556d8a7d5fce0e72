"""Dealings: which bank each word of a table is in."""

from bankwalk.basics import are_at_least, is_at_least, is_pair
from bankwalk.errors import NoWord


def share_no_divisor(one, other):
    """Whether no number above 1 divides both, which are 1 or more."""
    while other > 0:
        one, other = other, one % other
    return one == 1


def is_skew(thing):
    """Whether the tuple thing goes on as a skew dealing does."""
    return len(thing) == 6 and are_at_least(thing[1:4], 1) and are_at_least(thing[4:], 0)


def is_rests(thing):
    """Whether the tuple thing goes on as a rests dealing does."""
    if len(thing) != 5 or not are_at_least(thing[1:], 1):
        return False
    rows, columns, banks, places = thing[1:]
    return share_no_divisor(banks, places) and banks * places >= rows * columns


def is_bits(thing):
    """Whether the tuple thing goes on as a bits dealing does."""
    if len(thing) != 4 or not are_at_least(thing[1:3], 0):
        return False
    high, low, masks = thing[1:]
    if not isinstance(masks, tuple) or not are_at_least(masks, 0):
        return False
    return all([mask.bit_length() <= high + low for mask in masks])


def is_bank_row(thing, wide, banks):
    """Whether thing is a tuple of that many numbers of banks."""
    if not isinstance(thing, tuple) or len(thing) != wide or not are_at_least(thing, 0):
        return False
    return all([bank < banks for bank in thing])


def is_table(thing):
    """Whether the tuple thing goes on as a table dealing does."""
    if len(thing) != 3 or not is_at_least(thing[1], 1):
        return False
    banks, cells = thing[1:]
    if not isinstance(cells, tuple) or len(cells) == 0:
        return False
    if not isinstance(cells[0], tuple) or len(cells[0]) == 0:
        return False
    return all([is_bank_row(row, len(cells[0]), banks) for row in cells])


def is_joined(thing):
    """Whether the tuple thing goes on as a joined dealing does."""
    return len(thing) == 3 and is_dealing(thing[1]) and is_dealing(thing[2])


def is_dealing(thing):
    """Whether thing, which may be anything, is a dealing."""
    if not isinstance(thing, tuple) or len(thing) == 0:
        return False
    kind = thing[0]
    if kind == "skew":
        return is_skew(thing)
    if kind == "rests":
        return is_rests(thing)
    if kind == "bits":
        return is_bits(thing)
    if kind == "table":
        return is_table(thing)
    return kind == "joined" and is_joined(thing)


def size_of(dealing):
    """The tuple (rows, columns, banks)."""
    kind = dealing[0]
    if kind == "bits":
        return (1 << dealing[1], 1 << dealing[2], 1 << len(dealing[3]))
    if kind == "table":
        return (len(dealing[2]), len(dealing[2][0]), dealing[1])
    if kind == "joined":
        rows, columns, banks = size_of(dealing[1])
        other_rows, other_columns, other_banks = size_of(dealing[2])
        return (rows * other_rows, columns * other_columns, banks * other_banks)
    return (dealing[1], dealing[2], dealing[3])


def number_of(dealing, word):
    """The number of a word of the table."""
    rows, columns, banks = size_of(dealing)
    return word[0] * columns + word[1]


def all_words(dealing):
    """The list of all words of the table, by their numbers."""
    rows, columns, banks = size_of(dealing)
    return [(i, j) for i in range(rows) for j in range(columns)]


def is_word(dealing, thing):
    """Whether thing, which may be anything, is a word of the table."""
    if not is_pair(thing):
        return False
    rows, columns, banks = size_of(dealing)
    return 0 <= thing[0] < rows and 0 <= thing[1] < columns


def odd_in_common(number, mask):
    """Whether number and mask have an odd number of bits in common."""
    common = number & mask
    many = 0
    while common > 0:
        many += common & 1
        common = common >> 1
    return many & 1 == 1


def bits_bank(masks, number):
    """The bank of a word's number by the masks of a bits dealing."""
    return sum([1 << t for t, mask in enumerate(masks) if odd_in_common(number, mask)])


def parted(word, rows, columns):
    """The word parted by a joined dealing's other table, of so many rows and columns: one's word and other's."""
    i, j = word
    return ((i // rows, j // columns), (i % rows, j % columns))


def joined_bank(one, other, word):
    """The bank of a word of the table that is joined of one's and other's."""
    rows, columns, banks = size_of(other)
    upper, lower = parted(word, rows, columns)
    return bank_in(one, upper) * banks + bank_in(other, lower)


def bank_in(dealing, word):
    """The bank of what is surely a word of the table."""
    kind = dealing[0]
    if kind == "skew":
        return (dealing[4] * word[0] + dealing[5] * word[1]) % dealing[3]
    if kind == "rests":
        return number_of(dealing, word) % dealing[3]
    if kind == "bits":
        return bits_bank(dealing[3], number_of(dealing, word))
    if kind == "table":
        return dealing[2][word[0]][word[1]]
    return joined_bank(dealing[1], dealing[2], word)


def refuse_no_word(dealing, thing):
    """Refuses with NoWord where thing, which may be anything, is no word of the table."""
    if not is_word(dealing, thing):
        raise NoWord("this is no word of the table")


def bank_of(dealing, word):
    """The bank of a word; refused with NoWord where word isn't one of the table."""
    refuse_no_word(dealing, word)
    return bank_in(dealing, word)

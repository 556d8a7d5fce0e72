"""A desk that reads sheets of asks, row by row, and answers them by texts."""

from bankwalk.clashes import clash, clear_starts, loads
from bankwalk.dealings import bank_in, is_word, size_of
from bankwalk.errors import BadRow, BadText
from bankwalk.lanes import lanes_of
from bankwalk.places import place_of, word_at
from bankwalk.rests import longest, rests_of
from bankwalk.texts import dealing_of, in_rows, in_words, numbers_of, walk_of
from bankwalk.turning import is_square, turn_plan
from bankwalk.walks import is_start, starts

NONE = "none"
MOST_BANKS = 16


def read_deal(words):
    """The dealing that these words tell, alone in a tuple; refused with BadText (so all that read words)."""
    return (dealing_of(in_words(words)),)


def read_walk(words):
    """The walk that these words tell, alone in a tuple."""
    return (walk_of(in_words(words)),)


def read_two(words):
    """The two numbers that these words tell."""
    if len(words) != 2:
        raise BadText("two numbers are due")
    return numbers_of(words)


def read_two_plain(words):
    """The two numbers, none below 0, that these words tell."""
    numbers = read_two(words)
    if min(numbers) < 0:
        raise BadText("a minus may not stand here")
    return numbers


def read_way(words):
    """The two numbers, not both 0, that these words tell."""
    numbers = read_two(words)
    if numbers == (0, 0):
        raise BadText("both numbers are 0")
    return numbers


def read_start_and_walk(words):
    """The pair and the walk that these words tell."""
    return (read_two(words[:2]), walk_of(in_words(words[2:])))


def read_nothing(words):
    """No things, where there are no words."""
    if len(words) > 0:
        raise BadText("nothing more may stand here")
    return ()


def is_by_rests(dealing):
    """Whether the dealing is one that has rests."""
    return dealing[0] in ("skew", "rests")


def tell_bank(dealing, given):
    """The answer to `bank`."""
    if not is_word(dealing, given):
        return NONE
    return in_words([bank_in(dealing, given), place_of(dealing, given)])


def tell_word(dealing, given):
    """The answer to `word`."""
    bank, place = given
    word = word_at(dealing, bank, place)
    return NONE if word is None else in_words(word)


def tell_clash(dealing, given):
    """The answer to `clash`."""
    found = clash(dealing, given[0])
    if found is None:
        return "clear"
    start, k, l = found
    return in_words([start[0], start[1], k, l])


def tell_starts(dealing, given):
    """The answer to `starts`."""
    return in_words([len(starts(dealing, given[0])), len(clear_starts(dealing, given[0]))])


def tell_rests(dealing, given):
    """The answer to `rests`."""
    return in_words(rests_of(dealing, given[0])) if is_by_rests(dealing) else NONE


def tell_load(dealing, given):
    """The answer to `load`."""
    start, walk = given
    return in_words(loads(dealing, walk, start)) if is_start(dealing, walk, start) else NONE


def tell_net(dealing, given):
    """The answer to `net`."""
    start, walk = given
    rows, columns, banks = size_of(dealing)
    if banks > MOST_BANKS or not is_start(dealing, walk, start):
        return NONE
    order = lanes_of(dealing, walk, start)
    return NONE if order is None else in_words(order)


def tell_longest(dealing, given):
    """The answer to `longest`."""
    down, along = given
    return str(longest(dealing, down, along)) if is_by_rests(dealing) else NONE


def tell_plan(dealing, given):
    """The answer to `plan`."""
    if not is_square(dealing):
        return NONE
    plan = turn_plan(dealing)
    if len(plan) == 0:
        return "-"
    return in_rows([[number for pair in beat for number in pair] for beat in plan])


READERS = {
    "deal": read_deal,
    "bank": read_two_plain,
    "word": read_two_plain,
    "clash": read_walk,
    "starts": read_walk,
    "rests": read_walk,
    "load": read_start_and_walk,
    "net": read_start_and_walk,
    "longest": read_way,
    "plan": read_nothing,
}

TELLERS = {
    "bank": tell_bank,
    "word": tell_word,
    "clash": tell_clash,
    "starts": tell_starts,
    "rests": tell_rests,
    "load": tell_load,
    "net": tell_net,
    "longest": tell_longest,
    "plan": tell_plan,
}


def read_row(row):
    """(kind, things) of a row that isn't empty: its first word, and what those behind tell; refused with BadText."""
    kind, *words = row.split(" ")
    if kind not in READERS:
        raise BadText("no row begins so")
    read = READERS[kind]
    return (kind, read(words))


def read_sheet(text):
    """The list of what the rows that aren't empty tell; refused with BadRow."""
    rows = text.split("\n")
    told = []
    for at, row in enumerate(rows):
        if row != "":
            try:
                told.append(read_row(row))
            except BadText:
                raise BadRow(at)
            if told[0][0] != "deal":
                raise BadRow(at)
    if len(told) == 0:
        raise BadRow(len(rows))
    return told


def told_by(text):
    """The list with a text for each ask of a sheet; refused with BadRow, ahead of all."""
    answers = []
    dealing = None
    for kind, given in read_sheet(text):
        if kind == "deal":
            dealing = given[0]
        else:
            tell = TELLERS[kind]
            answers.append(tell(dealing, given))
    return answers

"""A player, which begins words beat by beat as their banks are free, and counts waits."""

from bankwalk.clashes import loads
from bankwalk.dealings import bank_in, is_word
from bankwalk.errors import NoAsk
from bankwalk.walks import words_of


def refuse_no_ask(dealing, asked):
    """Refuses with NoAsk at the first thing of asked that is no word of the table."""
    for row, words in enumerate(asked):
        for at, word in enumerate(words):
            if not is_word(dealing, word):
                raise NoAsk(row, at)


def begun_and_left(dealing, words, beat, hold, free):
    """The list of the words that are begun in this beat, and of those that are left.

    free tells the beat from which on a bank is free again, where one was begun in it, and is kept up here.
    """
    begun, left = [], []
    for word in words:
        bank = bank_in(dealing, word)
        if free.get(bank, 0) <= beat:
            free[bank] = beat + hold
            begun.append(word)
        else:
            left.append(word)
    return (begun, left)


def row_beats(dealing, words, beat, hold, free):
    """The list with for each beat of a row, of which this one is the first, the list of the words begun in it."""
    beats = []
    left = words
    # An empty row takes a beat, too.
    while len(beats) == 0 or len(left) > 0:
        begun, left = begun_and_left(dealing, left, beat + len(beats), hold, free)
        beats.append(begun)
    return beats


def play(dealing, asked, hold):
    """(beats, waits, log) of rows of words that are asked for; refused with NoAsk where one is no word."""
    refuse_no_ask(dealing, asked)
    beat, waits, log, free = 0, 0, [], {}
    for row, words in enumerate(asked):
        beats = row_beats(dealing, words, beat, hold, free)
        for begun in beats:
            log += [(beat, row, word) for word in begun]
            beat += 1
        # All beats of a row but its last have words left at their end.
        waits += len(beats) - 1
    return (beat, waits, log)


def waits_of(dealing, walk, start):
    """The waits of the walk's words from this start, asked for as one row at hold 1; refused with NoStart."""
    return max(loads(dealing, walk, start)) - 1


def steady(dealing, walk, some, hold):
    """(beats, waits) of the walk's words from each of these starts, a row each; refused with NoStart."""
    beats, waits, log = play(dealing, [words_of(dealing, walk, start) for start in some], hold)
    return (beats, waits)

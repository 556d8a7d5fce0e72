"""Places: where in its bank each word stands, and memories that are laid out so."""

from bankwalk.dealings import all_words, bank_in, number_of, refuse_no_word, size_of


def rests_spots(dealing):
    """The spots of a rests dealing."""
    rows, columns, banks, places = dealing[1:]
    return [(number % banks, number % places) for number in range(rows * columns)]


def counted_spots(dealing):
    """The spots of a dealing that counts the words of lesser numbers."""
    # A dict, since bits dealings may have far more banks than words.
    counts = {}
    spots = []
    for word in all_words(dealing):
        bank = bank_in(dealing, word)
        place = counts.get(bank, 0)
        spots.append((bank, place))
        counts[bank] = place + 1
    return spots


def spots_of(dealing):
    """The list of the pairs (bank, place) of all words, by their numbers."""
    if dealing[0] == "rests":
        return rests_spots(dealing)
    return counted_spots(dealing)


def place_of(dealing, word):
    """The place of a word in its bank; refused with NoWord where word isn't one of the table."""
    refuse_no_word(dealing, word)
    bank, place = spots_of(dealing)[number_of(dealing, word)]
    return place


def word_at(dealing, bank, place):
    """The word that stands in this bank at this place, None where there is none."""
    rows, columns, banks = size_of(dealing)
    for number, spot in enumerate(spots_of(dealing)):
        if spot == (bank, place):
            return (number // columns, number % columns)
    return None


def held(dealing):
    """The list with for each bank the list of its words by rising place."""
    rows, columns, banks = size_of(dealing)
    told = [[] for bank in range(banks)]
    for (bank, place), word in sorted(zip(spots_of(dealing), all_words(dealing))):
        told[bank].append(word)
    return told


def filled(dealing, worths):
    """The memory of these worths, which stand by the words' numbers."""
    rows, columns, banks = size_of(dealing)
    memory = [[] for bank in range(banks)]
    for (bank, place), worth in zip(spots_of(dealing), worths):
        shelf = memory[bank]
        while len(shelf) <= place:
            shelf.append(None)
        shelf[place] = worth
    return memory


def emptied(dealing, memory):
    """The list of the worths of a memory, by the words' numbers."""
    return [memory[bank][place] for bank, place in spots_of(dealing)]

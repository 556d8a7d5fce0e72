"""Lanes: nets that lead the words of a walk to their banks, and the banks' worths back in order."""

from bankwalk.basics import first_alike
from bankwalk.clashes import banks_from
from bankwalk.dealings import number_of, size_of
from bankwalk.errors import Clash
from bankwalk.nets import led_back, net_by
from bankwalk.places import spots_of
from bankwalk.walks import words_of


def lanes_for(banks):
    """How many lanes a net has that reaches so many banks."""
    lanes = 2
    while lanes < banks:
        lanes = lanes * 2
    return lanes


def lanes_of(dealing, walk, start):
    """The order of the words' banks and, behind them, the lanes left; None with a clash, refused with NoStart."""
    asked = banks_from(dealing, walk, start)
    if first_alike(asked) is not None:
        return None
    rows, columns, banks = size_of(dealing)
    return tuple(asked + [lane for lane in range(lanes_for(banks)) if lane not in asked])


def net_of(dealing, walk, start):
    """A net that leads the walk's words to their banks; None with a clash, refused with NoStart."""
    order = lanes_of(dealing, walk, start)
    if order is None:
        return None
    return net_by(order)


def shown_by(dealing, words, memory):
    """The dict with for each bank of the words the worth of its word, read from the memory."""
    spots = spots_of(dealing)
    shown = {}
    for word in words:
        bank, place = spots[number_of(dealing, word)]
        shown[bank] = memory[bank][place]
    return shown


def handed(dealing, walk, start, memory):
    """The list of the worths of the walk's words, read from the memory; refused with NoStart, then with Clash."""
    order = lanes_of(dealing, walk, start)
    if order is None:
        raise Clash("from there two words of the walk are in one bank")
    words = words_of(dealing, walk, start)
    shown = shown_by(dealing, words, memory)
    # Lanes that no word is led to bear nothing, and come back behind the words' own.
    back = led_back(net_by(order), [shown.get(lane) for lane in range(len(order))])
    return back[: len(words)]

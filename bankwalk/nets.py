"""Nets of switches, which lead things to lanes, and back."""

from bankwalk.basics import is_number, is_number_below
from bankwalk.errors import NoOrder


def are_switches(thing, many):
    """Whether thing, which may be anything, is a tuple of that many numbers 0 or 1."""
    return isinstance(thing, tuple) and len(thing) == many and all([is_number_below(switch, 2) for switch in thing])


def is_net(thing, lanes):
    """Whether thing, which may be anything, is a net of so many lanes."""
    if lanes == 2:
        return is_number_below(thing, 2)
    if not isinstance(thing, tuple) or len(thing) != 4:
        return False
    first, upper, lower, last = thing
    half = lanes // 2
    if not are_switches(first, half) or not are_switches(last, half):
        return False
    return is_net(upper, half) and is_net(lower, half)


def switched(switches, things):
    """The list of the things, of which each two neighbours are exchanged whose switch is 1."""
    told = []
    for t, switch in enumerate(switches):
        former, latter = things[2 * t], things[2 * t + 1]
        if switch == 1:
            told += [latter, former]
        else:
            told += [former, latter]
    return told


def led(net, things):
    """The list of what comes out of the net, by lanes."""
    if len(things) == 2:
        return switched([net], things)
    first, upper, lower, last = net
    entering = switched(first, things)
    above, below = led(upper, entering[0::2]), led(lower, entering[1::2])
    return switched(last, [thing for both in zip(above, below) for thing in both])


def mirrored(net, lanes):
    """The net of so many lanes that leads everything the other way."""
    if lanes == 2:
        return net
    first, upper, lower, last = net
    return (last, mirrored(upper, lanes // 2), mirrored(lower, lanes // 2), first)


def led_back(net, things):
    """The list that led leads to these things."""
    return led(mirrored(net, len(things)), things)


def halves_of(order):
    """The list with for each thing the half it is led through: 0 the upper one, 1 the lower one."""
    comers = [order.index(lane) for lane in range(len(order))]
    halves = [None for thing in order]
    for begin in range(len(order)):
        k = begin
        while halves[k] is None:
            halves[k] = 0
            halves[k ^ 1] = 1
            # Neighbours where they come out come through unlike halves, too, so the upper one is due there.
            k = comers[order[k ^ 1] ^ 1]
    return halves


def net_by(order):
    """A net that leads thing k to lane order[k], of what is surely an order."""
    if len(order) == 2:
        return order[0]
    halves = halves_of(order)
    first = tuple(halves[0::2])
    last = tuple([halves[order.index(lane)] for lane in range(0, len(order), 2)])
    upper = tuple([lane // 2 for lane, half in zip(order, halves) if half == 0])
    lower = tuple([lane // 2 for lane, half in zip(order, halves) if half == 1])
    return (first, net_by(upper), net_by(lower), last)


def is_order(thing):
    """Whether thing, which may be anything, is a tuple of 2, 4, 8 or 16 unlike numbers from 0 on."""
    if not isinstance(thing, tuple) or len(thing) not in (2, 4, 8, 16):
        return False
    return all([is_number(lane) for lane in thing]) and sorted(thing) == list(range(len(thing)))


def net_for(order):
    """A net that leads thing k to lane order[k]; refused with NoOrder where order isn't one."""
    if not is_order(order):
        raise NoOrder("this is no order of 2, 4, 8 or 16 lanes")
    return net_by(order)

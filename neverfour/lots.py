"""Lots: how many pulses there are on each wire."""

from neverfour.common import whole
from neverfour.errors import BadLot, Unlike


def below(one, two):
    """Whether the first lot is below the second one."""
    check_pair(one, two)
    return lies_below(one, two)


def plus(one, two):
    """The lot of the sums."""
    check_pair(one, two)
    return sum_of(one, two)


def check_pair(one, two):
    """BadLot or Unlike unless both are lots on the same number of wires."""
    if not some_lot(one):
        raise BadLot(0)
    if not some_lot(two):
        raise BadLot(1)
    if len(one) != len(two):
        raise Unlike(0)


def some_lot(thing):
    """Whether the thing is a lot, on any number of wires."""
    return isinstance(thing, tuple) and all([whole(number) and number >= 0 for number in thing])


def lot_on(thing, wires):
    """Whether the thing is a lot on so many wires."""
    return isinstance(thing, tuple) and len(thing) == wires and some_lot(thing)


def lies_below(one, two):
    """Whether one lot is below another one on as many wires."""
    for x, y in zip(one, two):
        if x > y:
            return False
    return True


def sum_of(one, two):
    """The sum of two lots on as many wires."""
    return tuple([x + y for x, y in zip(one, two)])

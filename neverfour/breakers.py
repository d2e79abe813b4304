"""Papers against every laying on too few wires."""

from neverfour.books import made_book
from neverfour.common import first_rows
from neverfour.errors import NoFork, NoLasting, NoRing, Wires
from neverfour.forks import fork_states, reach
from neverfour.layings import check_laying, lots_of, moves_of
from neverfour.lots import lies_below, sum_of
from neverfour.rings import forks_on_rings
from neverfour.windows import check_number, lasting_for, leading_to


def pinch(book, laying):
    """A paper against a laying on one wire."""
    made_book(book)
    check_laying(book, laying)
    check_wires(laying, 1)
    forks = fork_states(book)
    if not forks:
        raise NoFork(0)
    u = first_rows(book)[forks[0]]
    a, b = [message for message, to in book[forks[0]]][:2]
    walk = Walk(book, laying)
    place = walk.led(0, u)
    if lies_below(walk.brought(place, (a,)), walk.brought(place, (b,))):
        return ("cover", u, a, b, ())
    return ("cover", u, b, a, ())


def fall(book, laying, window):
    """The turns and the paper against a laying on two wires."""
    made_book(book)
    check_laying(book, laying)
    check_number(window)
    check_wires(laying, 2)
    forks = lasting_for(book, window)
    if not forks:
        raise NoLasting(0)
    walk = Walk(book, laying)
    turns = []
    before = None
    turn = first_turn(book, walk, forks)
    while True:
        paper, noted = judged(walk, turn, before, leading_to(book, turn[1], window, forks)[:2])
        if paper is not None:
            return (tuple(turns), paper)
        turns.append(noted)
        before, turn = led_on(book, walk, forks, turn, noted)


def again(book, laying):
    """A paper against a laying without answers."""
    made_book(book)
    check_laying(book, laying)
    forks = forks_on_rings(book)
    if not forks:
        raise NoRing(0)
    fork = forks[0]
    c, to = [(message, to) for message, to in book[fork] if fork in reach(book, to, len(book))][0]
    b = [message for message, to in book[fork] if message != c][0]
    w = (c,) + first_rows(book, to)[fork]
    u = first_rows(book)[fork]
    walk = Walk(book, laying)
    place = walk.led(0, u)
    rounds = {}
    while place not in rounds:
        rounds[place] = len(rounds)
        place = walk.led(place, w)
    i = rounds[place]
    return ("cover", u + i * w, b, c, w[1:] + (len(rounds) - i - 1) * w + (b,))


def check_wires(laying, wires):
    """Wires unless the laying has so many."""
    if laying[0] != wires:
        raise Wires(laying[0])


class Walk:
    """Where messages lead from a place of the laying, and the sum of the lots that they have there."""

    def __init__(self, book, laying):
        self.wires = laying[0]
        self.heads = [dict(pairs) for pairs in moves_of(book, laying)]
        self.lots = lots_of(book, laying)

    def led(self, place, messages):
        """The place to which the messages lead."""
        for message in messages:
            place = self.heads[place][message]
        return place

    def brought(self, place, messages):
        """The sum of the lots of the messages."""
        total = (0,) * self.wires
        for message in messages:
            total = sum_of(total, self.lots[place][message])
            place = self.heads[place][message]
        return total


def first_turn(book, walk, forks):
    """The first turn: its row, the state and the place to which this comes."""
    rows = first_rows(book)
    fork = [state for state in rows if state in forks][0]
    return (rows[fork], fork, walk.led(0, rows[fork]))


def judged(walk, turn, before, messages):
    """The paper of a turn, or None and what is noted of the turn; before tells of the turn ahead of it, if any."""
    u, _, place = turn
    a, b = messages
    lot, other = walk.brought(place, (a,)), walk.brought(place, (b,))
    if lies_below(lot, other):
        return (("cover", u, a, b, ()), None)
    if lies_below(other, lot):
        return (("cover", u, b, a, ()), None)
    # Neither lot is below the other one, so each has more on one of the two wires.
    high, low = (a, b) if lot[0] > other[0] else (b, a)
    if before is not None:
        u0, place0, high0, low0, w = before
        if lies_below(walk.brought(place0, (high0,)), walk.brought(place0, w + (high,))):
            return (("cover", u0, high0, low0, w[1:] + (high,)), None)
    return (None, (u, high, low, max(lot[0], other[0])))


def led_on(book, walk, forks, turn, noted):
    """What the next turn has to know of this one, and the next turn."""
    u, state, place = turn
    _, high, low, _ = noted
    to = dict(book[state])[low]
    # As low leads to a lasting fork within the window, the least way to one does.
    rows = first_rows(book, to)
    fork = [end for end in rows if end in forks][0]
    w = (low,) + rows[fork]
    return ((u, place, high, low, w), (u + w, fork, walk.led(place, w)))

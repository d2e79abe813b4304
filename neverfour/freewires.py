"""Layings that are right without answers, for books without a fork on a ring.

The cut rows are told as three_wires tells the rows of a batch. Only a row that has come to a ring goes on without end,
and its pulses do no harm on a wire of their own, or where its row is the last one in the order of that wire.
"""

from neverfour.books import made_book
from neverfour.layings import numbered_by_meeting
from neverfour.least import least_for
from neverfour.rings import cut_ends, ring_states


def free_wires(book):
    """The laying without answers on as few wires as can be."""
    made_book(book)
    plan = Plan(book)
    numbers = numbered_by_meeting((0, ()), plan.behind)
    places = []
    for place in numbers:
        heads = [numbers[to] for to in plan.behind(place)]
        places.append((place[0], tuple(zip(heads, plan.lots(place)))))
    return (plan.wires, tuple(places))


class Plan:
    """The places (state, cut row), where their messages lead, and their lots."""

    def __init__(self, book):
        ends = cut_ends(book)
        ring = ring_states(book)
        self.states = book
        self.wires = least_for(book, None)
        self.rows = [row for row, state in ends]
        self.rays = [row for row, state in ends if state in ring]

    def behind(self, place):
        """The places to which the messages of the place lead."""
        state, row = place
        if row in self.rays:
            return [(to, row) for message, to in self.states[state]]
        return [(to, row + (message,)) for message, to in self.states[state]]

    def lots(self, place):
        """The lots of the messages of the place."""
        state, row = place
        messages = [message for message, to in self.states[state]]
        if self.wires < 2:
            return [(1,) for _ in messages]
        if row in self.rays:
            return [self.ray_lot(row) for _ in messages]
        order = self.in_order(row, messages)
        sizes = [self.many_from(row + (message,)) for message in order]
        lots = []
        for message in messages:
            at = order.index(message)
            lot = (1 + sum(sizes[:at]), 1 + sum(sizes[at + 1:]))
            lots.append(lot + (0,) * (self.wires - 2))
        return lots

    def ray_lot(self, row):
        """The lot of the messages round the ring of this ray."""
        if self.wires == 3:
            return (0, 0, 1)
        if len(self.rays) == 2 and row == self.rays[0]:
            return (0, 1)
        return (1, 0)

    def in_order(self, row, messages):
        """The messages behind the row in the order of children."""
        if self.wires == 3 or not self.rays:
            return messages
        first = self.along(self.rays[0], row) if len(self.rays) == 2 else []
        last = [message for message in self.along(self.rays[-1], row) if message not in first]
        return first + [message for message in messages if message not in first + last] + last

    def along(self, ray, row):
        """The message behind the row in a list, if the ray goes on from it, else an empty list."""
        if ray[:len(row)] == row:
            return list(ray[len(row):len(row) + 1])
        return []

    def many_from(self, row):
        """How many cut rows begin with the row."""
        return len([other for other in self.rows if other[:len(row)] == row])

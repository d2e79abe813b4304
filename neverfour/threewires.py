"""Layings on three wires, for every book.

The wires take turns: within a batch of messages, one wire tells the rows of the batch in ascending order, the next
one in descending order, and the third one is silent.
"""

from neverfour.books import made_book
from neverfour.errors import TooMany
from neverfour.layings import MOST_PLACES, numbered_by_meeting
from neverfour.windows import check_small


def three_wires(book, window):
    """The laying on three wires that is right for the window."""
    made_book(book)
    check_small(window)
    batches = Batches(book, window)
    if batches.greatest() > MOST_PLACES:
        raise TooMany(batches.greatest())
    numbers = numbered_by_meeting((0, 0, (), 0), batches.behind)
    places = []
    for place in numbers:
        heads = [numbers[to] for to in batches.behind(place)]
        places.append((place[0], tuple(zip(heads, batches.lots(place)))))
    return (3, tuple(places))


class Batches:
    """The places (state, start, row, wire), where their messages lead, and their lots."""

    def __init__(self, book, window):
        self.states = book
        self.window = window
        # For each number of messages and each state, how many rows of at most so many messages begin there.
        self.sizes = [[1] * len(book)]
        for _ in range(window):
            before = self.sizes[-1]
            self.sizes.append([1 + sum([before[to] for message, to in state]) for state in book])

    def greatest(self):
        """The greatest number of rows of a batch."""
        return max(self.sizes[self.window])

    def behind(self, place):
        """The places to which the messages of the place lead."""
        state, start, row, wire = place
        if len(row) + 1 < self.window:
            return [(to, start, row + (message,), wire) for message, to in self.states[state]]
        return [(to, to, (), (wire + 1) % 3) for message, to in self.states[state]]

    def lots(self, place):
        """The lots of the messages of the place."""
        state, _, row, wire = place
        # Between a row and one that is one message longer stand the rows that begin with the messages between.
        sizes = self.sizes[self.window - len(row) - 1]
        parts = [sizes[to] for message, to in self.states[state]]
        lots = []
        for index in range(len(parts)):
            lot = [0, 0, 0]
            lot[wire] = 1 + sum(parts[:index])
            lot[(wire + 1) % 3] = self.greatest() * (1 + sum(parts[index + 1:]))
            lots.append(tuple(lot))
        return lots

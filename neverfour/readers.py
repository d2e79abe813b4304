"""Readers: what a hearer tells by its counts."""

from neverfour.books import made_book
from neverfour.common import whole_within
from neverfour.errors import BadWire
from neverfour.layings import check_carrying, steps_of
from neverfour.lots import lies_below, sum_of


class Reader:
    """A reader that hears pulse by pulse."""

    def __init__(self, book, laying):
        made_book(book)
        check_carrying(book, laying)
        self.teller = Teller(book, laying)
        self.heard = [0] * laying[0]

    def hear(self, wire):
        """One pulse comes on the wire; the messages that are newly told."""
        if not whole_within(wire, 0, len(self.heard) - 1):
            raise BadWire(wire)
        self.heard[wire] += 1
        return self.teller.tell(self.heard)

    def told(self):
        """The row told so far."""
        return tuple(self.teller.messages)

    def counts(self):
        """The number of pulses that came on each wire."""
        return tuple(self.heard)


class Teller:
    """The row told so far, with its place and its total."""

    def __init__(self, book, laying):
        self.steps = steps_of(book, laying)
        self.place = 0
        self.total = (0,) * laying[0]
        self.messages = []

    def tell(self, counts):
        """Tells the least message that is due at these counts, over and over; the messages that are newly told."""
        done = len(self.messages)
        while self.tell_one(counts):
            pass
        return tuple(self.messages[done:])

    def tell_one(self, counts):
        """Tells the least message that is due, if some message is; whether one is."""
        for message, to, lot in self.steps[self.place]:
            total = sum_of(self.total, lot)
            if lies_below(total, counts):
                self.place = to
                self.total = total
                self.messages.append(message)
                return True
        return False

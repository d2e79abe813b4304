"""Readers that know the remainders of their counts only."""

from neverfour.books import made_book
from neverfour.common import tuple_within, whole_within
from neverfour.errors import BadMany, BadRests, NotRight
from neverfour.judge import right
from neverfour.layings import check_carrying, more_tops, no_tops, seen_part
from neverfour.readers import Teller
from neverfour.windows import GREATEST_SMALL, check_small


def caps(book, laying, many):
    """The greatest number on each wire of a row of at most so many messages that begins at any place."""
    made_book(book)
    check_carrying(book, laying)
    if not whole_within(many, 1, GREATEST_SMALL):
        raise BadMany(0)
    return caps_for(book, laying, many)


def caps_for(book, laying, many):
    """What caps returns, where the arguments are known to be good."""
    wires, places = seen_part(book, laying)
    tops = no_tops(places, wires)
    for _ in range(many):
        tops = more_tops(places, tops)
    return tuple([max(numbers) for numbers in tops])


class RestReader:
    """A reader of a laying that is right for the window; the sender is at most the window ahead of it."""

    def __init__(self, book, laying, window):
        made_book(book)
        check_carrying(book, laying)
        check_small(window)
        if not right(book, laying, window):
            raise NotRight(0)
        self.moduli = [cap + 1 for cap in caps_for(book, laying, window)]
        self.teller = Teller(book, laying)

    def rests(self):
        """The numbers by which it counts, wire by wire."""
        return tuple(self.moduli)

    def look(self, rests):
        """Takes the counts that have these remainders; the messages that are newly told."""
        many = len(self.moduli)
        if not tuple_within(rests, many, many):
            raise BadRests(-1)
        for wire in range(many):
            if not whole_within(rests[wire], 0, self.moduli[wire] - 1):
                raise BadRests(wire)
        counts = []
        for number, rest, modulus in zip(self.teller.total, rests, self.moduli):
            counts.append(number + (rest - number) % modulus)
        return self.teller.tell(counts)

    def told(self):
        """The row told so far."""
        return tuple(self.teller.messages)

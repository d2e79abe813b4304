"""Trees: houses that are joined by links, each told the row of its elder."""

from neverfour.books import made_book
from neverfour.common import tuple_within, whole, whole_within
from neverfour.errors import BadHouse, BadTree, Full, NoAnswer, NoMessage, NothingToSend, Waits
from neverfour.layings import check_carrying
from neverfour.readers import Teller
from neverfour.windows import made_window
from neverfour.worlds import MOST_SAID, Link, begins

MOST_LINKS = 7


class Tree:
    """A root, house 0, and the houses behind it."""

    def __init__(self, book, parents, layings, windows):
        made_book(book)
        check_parents(parents)
        many = len(parents)
        if not tuple_within(layings, many, many):
            raise BadTree(0)
        for laying in layings:
            check_carrying(book, laying)
        if not tuple_within(windows, many, many):
            raise BadTree(0)
        for window in windows:
            made_window(window)
        self.elders = list(parents)
        self.links = []
        for laying, window in zip(layings, windows):
            self.links.append(Link(book, laying, window, Teller(book, laying)))
        self.heads = [dict(state) for state in book]
        self.state = 0
        self.root = []

    def say(self, message):
        """The row of the root grows by the message."""
        if not whole(message) or message not in self.heads[self.state]:
            raise NoMessage(message)
        if len(self.root) >= MOST_SAID:
            raise Full(MOST_SAID)
        self.root.append(message)
        self.state = self.heads[self.state][message]

    def send(self, house):
        """The next message of the row of its elder is sent on the link of the house."""
        link = self.link_of(house)
        if not self.lacking(house):
            raise NothingToSend(house)
        if link.waits():
            raise Waits(house)
        link.send(self.told_at(self.elders[house - 1])[len(link.sent)])

    def come(self, house, wire):
        """A pulse comes on the wire of the link; the messages that the house newly tells."""
        return self.link_of(house).come(wire)

    def answer(self, house):
        """An answer comes on the link."""
        link = self.link_of(house)
        if link.answers == 0:
            raise NoAnswer(house)
        link.take_answer()

    def row(self, house):
        """The row of the house."""
        if not whole_within(house, 0, len(self.links)):
            raise BadHouse(house)
        return tuple(self.told_at(house))

    def owed(self, house):
        """The number of answers under way on the link."""
        return self.link_of(house).answers

    def away(self, house):
        """The number of pulses under way on each wire of the link."""
        return tuple(self.link_of(house).under_way)

    def good(self):
        """Whether the row of each house but the root begins the row of its elder."""
        for house in range(1, len(self.links) + 1):
            if not begins(self.told_at(house), self.told_at(self.elders[house - 1])):
                return False
        return True

    def still(self):
        """Whether nothing is under way on any link and nothing can be sent."""
        for house in range(1, len(self.links) + 1):
            link = self.links[house - 1]
            if not link.quiet() or (self.lacking(house) and not link.waits()):
                return False
        return True

    def link_of(self, house):
        """The link to the house, or BadHouse."""
        if not whole_within(house, 1, len(self.links)):
            raise BadHouse(house)
        return self.links[house - 1]

    def told_at(self, house):
        """The row of the house, as the list that grows."""
        if house == 0:
            return self.root
        return self.links[house - 1].hearer.messages

    def lacking(self, house):
        """Whether part of the row of its elder is still to be sent on the link of the house."""
        return len(self.links[house - 1].sent) < len(self.told_at(self.elders[house - 1]))


def check_parents(parents):
    """BadTree unless each house from 1 on has a house with a lesser number as its elder."""
    if not tuple_within(parents, 1, MOST_LINKS):
        raise BadTree(-1)
    for house in range(1, len(parents) + 1):
        if not whole_within(parents[house - 1], 0, house - 1):
            raise BadTree(house)

"""The errors of the package: each keeps its one argument, as it is, in `what`."""


class Refused(ValueError):
    """The base class of all others."""

    def __init__(self, what):
        self.what = what
        # A session tells by this name what it refuses.
        self.kind = self.__class__.__name__


class BadBook(Refused):
    """The argument is not a book; what: -1, or the first state of a wrong form."""


class Stray(Refused):
    """The book has a state to which no row comes; what: the first such state."""


class BadRow(Refused):
    """The argument is not a row of the book; what: -1, or the first index at which the message is not let."""


class BadState(Refused):
    """The book has no such state; what: the argument."""


class BadMany(Refused):
    """The number is not within its bounds; what: 0."""


class TooMany(Refused):
    """There are more things than allowed; what: as the function tells."""


class Clash(Refused):
    """A message stands at the beginning of both books; what: the least such message."""


class NoMessage(Refused):
    """The message does not stand there; what: the message."""


class BadLot(Refused):
    """The argument is not a lot; what: the index of the argument."""


class Unlike(Refused):
    """Two things do not fit together; what: 0."""


class BadLaying(Refused):
    """The argument is not a laying of the book; what: -1, or the first place of a wrong form."""


class BadLots(Refused):
    """The argument is not the lots of the book's messages; what: -1, or the first wrong state."""


class BadOrder(Refused):
    """The argument is not an order of the wires; what: 0."""


class BadWire(Refused):
    """There is no such wire; what: the argument."""


class BadWindow(Refused):
    """The argument is not a window that is let here; what: 0."""


class NoNumber(Refused):
    """No number of wires is enough; what: the least fork on a ring."""


class BadPlace(Refused):
    """Rows do not come to such a place; what: the argument."""


class Same(Refused):
    """The two messages are the same; what: 0."""


class BadPaper(Refused):
    """The argument is not a paper for the laying and the window; what: 0."""


class HasFork(Refused):
    """The book has a fork; what: the least one."""


class HasLasting(Refused):
    """The book has a lasting fork; what: the least one."""


class Wires(Refused):
    """The laying has another number of wires; what: its number."""


class NoFork(Refused):
    """The book has no fork; what: 0."""


class NoLasting(Refused):
    """The book has no lasting fork; what: 0."""


class NoRing(Refused):
    """The book has no fork on a ring; what: 0."""


class Nought(Refused):
    """A message has a lot of zeros; what: the first such place."""


class NotRight(Refused):
    """The laying is not right for the window; what: 0."""


class BadRests(Refused):
    """The argument is not a tuple of rests; what: -1, or the first wrong wire."""


class BadCounts(Refused):
    """The argument is not a tuple of counts; what: 0."""


class BadManner(Refused):
    """There is no such manner of reading; what: the argument."""


class Waits(Refused):
    """The sender must wait for answers; what: 0, or the house."""


class Full(Refused):
    """No more is kept; what: the greatest number."""


class NoPulse(Refused):
    """No pulse is under way on the wire; what: the wire."""


class NoAnswer(Refused):
    """No answer is under way; what: 0, or the house."""


class BadScript(Refused):
    """The argument is not a script; what: -1, or the first wrong index."""


class BadPicks(Refused):
    """The argument is not a tuple of picks; what: -1, or the first wrong index."""


class BadTree(Refused):
    """The argument is not a tree; what: -1, 0, or the first wrong house."""


class BadHouse(Refused):
    """There is no such house; what: the argument."""


class NothingToSend(Refused):
    """All of the elder's row was sent; what: the house."""


class BadText(Refused):
    """The text is wrong; what: -1, or the place."""


class BadNames(Refused):
    """The argument is not a tuple of names; what: -1, or the first wrong index."""


class Twice(Refused):
    """The name stands twice; what: the place."""


class NoState(Refused):
    """There is no such state; what: the place."""


class TooDeep(Refused):
    """Too many brackets are open; what: the place."""


class Wide(Refused):
    """A state has more than five messages; what: the state."""


class NoName(Refused):
    """There is no such name; what: the place, or 0."""


class BadName(Refused):
    """The argument is not a name; what: 0."""


class NoBook(Refused):
    """There is no book of this name; what: the name, or 0."""


class Taken(Refused):
    """The name is taken; what: the name."""


class NothingBack(Refused):
    """There is nothing to undo; what: 0."""


class NothingAgain(Refused):
    """There is nothing to do again; what: 0."""


class NoLaying(Refused):
    """There is no laying; what: 0."""


class NoWorld(Refused):
    """There is no world; what: 0."""

"""Rings of a book, and the rows that come to them."""

from neverfour.books import made_book
from neverfour.common import first_rows
from neverfour.errors import NoNumber, TooMany
from neverfour.forks import fork_states, reach

MOST_CUT_ROWS = 120


def knots(book):
    """The states with two messages or more each of which can lead back, rising."""
    made_book(book)
    return tuple([state for state in range(len(book)) if ways_back(book, state) > 1])


def ring_forks(book):
    """The forks that are on a ring, rising."""
    made_book(book)
    return forks_on_rings(book)


def cut_rows(book):
    """The rows of which no proper beginning comes to a state on a ring, in the order of rows."""
    made_book(book)
    return tuple([row for row, state in cut_ends(book)])


def rays(book):
    """The cut rows that come to a state on a ring, in the order of rows."""
    made_book(book)
    ring = ring_states(book)
    return tuple([row for row, state in cut_ends(book) if state in ring])


def first_fork(book):
    """The least row that comes to a fork, None if the book has no fork."""
    made_book(book)
    cut_ends(book)
    for state, row in first_rows(book).items():
        if len(book[state]) > 1:
            return row
    return None


def ways_back(book, state):
    """How many messages of the state can lead back to it."""
    return len([message for message, to in book[state] if state in reach(book, to, len(book))])


def ring_states(book):
    """The states on a ring, rising."""
    return [state for state in range(len(book)) if ways_back(book, state) > 0]


def forks_on_rings(book):
    """What ring_forks returns, for what is known to be a book."""
    ring = ring_states(book)
    return tuple([state for state in fork_states(book) if state in ring])


def cut_ends(book):
    """The cut rows in the order of rows, each with the state to which it comes; or NoNumber or TooMany."""
    bad = forks_on_rings(book)
    if bad:
        raise NoNumber(bad[0])
    ring = ring_states(book)
    found = []
    ends = [((), 0)]
    while ends:
        found = found + ends
        if len(found) > MOST_CUT_ROWS:
            raise TooMany(MOST_CUT_ROWS)
        going = [(row, at) for row, at in ends if at not in ring]
        ends = [(row + (message,), to) for row, at in going for message, to in book[at]]
    return found

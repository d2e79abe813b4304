"""Layings on one wire."""

from neverfour.books import made_book
from neverfour.errors import HasFork
from neverfour.forks import fork_states


def one_wire(book):
    """The laying on one wire of a book without a fork: one pulse for each message."""
    made_book(book)
    bad = fork_states(book)
    if bad:
        raise HasFork(bad[0])
    return (1, tuple([(state, tuple([(to, (1,)) for message, to in book[state]])) for state in range(len(book))]))

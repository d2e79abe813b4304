"""Forks of a book, and where its ways lead."""

from neverfour.books import check_message, check_state, made_book
from neverfour.common import whole
from neverfour.errors import BadMany


def forks(book):
    """The forks, rising."""
    made_book(book)
    return fork_states(book)


def leads(book, state, message, many):
    """The states at which the ways of 1 to so many messages end that begin with the message, rising."""
    made_book(book)
    check_state(book, state)
    check_message(book, state, message)
    if not whole(many) or many < 0:
        raise BadMany(0)
    return led_to(book, state, message, many)


def fork_states(book):
    """The forks of what is known to be a book."""
    return tuple([state for state in range(len(book)) if len(book[state]) > 1])


def led_to(book, state, message, many):
    """What leads returns, where the arguments are known to be good."""
    if many == 0:
        return ()
    return reach(book, dict(book[state])[message], many - 1)


def reach(book, state, many):
    """The states to which at most so many messages lead from this state on, itself among them, rising."""
    found = [state]
    # Each message of a way that comes to a new state takes one of the other states.
    for _ in range(min(many, len(book))):
        ahead = [to for at in found for message, to in book[at]]
        found = sorted(set(found + ahead))
    return tuple(found)

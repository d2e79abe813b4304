"""Books made of other books."""

from neverfour.books import MOST_MESSAGES, MOST_STATES, check_message, check_state, made_book
from neverfour.common import least_states
from neverfour.errors import Clash, TooMany, Wide


def behind(one, two):
    """The book with the rows of the first one and, behind those that come to an end, the rows of the second one."""
    made_book(one)
    made_book(two)
    later = shifted(two, len(one))
    states = [state if state else later[0] for state in one]
    return small_enough(least_states(states + later))


def beside(one, two):
    """The book with the rows of both books."""
    made_book(one)
    made_book(two)
    others = [message for message, to in two[0]]
    for message, to in one[0]:
        if message in others:
            raise Clash(message)
    # The first state may be come back to in each book, where the other one cannot begin any more.
    first = shifted(one, 1)
    second = shifted(two, 1 + len(one))
    start = tuple(sorted(first[0] + second[0]))
    book = small_enough(least_states([start] + first + second))
    if len(book[0]) > MOST_MESSAGES:
        raise Wide(0)
    return book


def less(book, state, message):
    """The book with the rows that never use this message at this state."""
    made_book(book)
    check_state(book, state)
    check_message(book, state, message)
    states = list(book)
    states[state] = tuple([(m, to) for m, to in book[state] if m != message])
    return least_states(states)


def shifted(book, many):
    """The states of the book, each number of a state raised by so many."""
    return [tuple([(message, to + many) for message, to in state]) for state in book]


def small_enough(states):
    """The states as a book, or TooMany."""
    if len(states) > MOST_STATES:
        raise TooMany(len(states))
    return states

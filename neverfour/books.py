"""Books, their rows and their states."""

from neverfour.common import by_meeting, first_rows, tuple_within, whole, whole_within
from neverfour.errors import BadBook, BadMany, BadRow, BadState, NoMessage, Refused, Stray, TooMany

MOST_STATES = 8
MOST_MESSAGES = 5
GREATEST_MESSAGE = 99
LONGEST_ROW = 20000
MOST_ROWS = 5000


def made_book(thing):
    """The book, or BadBook or Stray."""
    check_form(thing)
    reached = first_rows(thing)
    for state in range(len(thing)):
        if state not in reached:
            raise Stray(state)
    return thing


def is_book(thing):
    """Whether the thing is a book."""
    try:
        made_book(thing)
    except Refused:
        return False
    return True


def trimmed(thing):
    """The book of those states to which rows come, numbered by meeting."""
    check_form(thing)
    return by_meeting(thing)


def check_form(thing):
    """BadBook unless the thing has the form of a book; rows need not come to its states."""
    if not tuple_within(thing, 1, MOST_STATES):
        raise BadBook(-1)
    for state in range(len(thing)):
        if not has_state_form(thing[state], len(thing)):
            raise BadBook(state)


def has_state_form(thing, many):
    """Whether the thing has the form of a state of a book with so many states."""
    if not tuple_within(thing, 0, MOST_MESSAGES):
        return False
    last = -1
    for pair in thing:
        if not tuple_within(pair, 2, 2):
            return False
        message, to = pair
        if not whole_within(message, last + 1, GREATEST_MESSAGE) or not whole_within(to, 0, many - 1):
            return False
        last = message
    return True


def check_state(book, state):
    """BadState unless the book has this state."""
    if not whole_within(state, 0, len(book) - 1):
        raise BadState(state)


def check_message(book, state, message):
    """NoMessage unless the message stands at the state."""
    if not stands(book, state, message):
        raise NoMessage(message)


def stands(book, state, message):
    """Whether the message stands at the state."""
    return whole(message) and message in [m for m, to in book[state]]


def made_row(book, thing):
    """The row of the book, or BadRow."""
    made_book(book)
    states_along(book, thing)
    return thing


def is_row(book, thing):
    """Whether the thing is a row of the book."""
    made_book(book)
    try:
        states_along(book, thing)
    except Refused:
        return False
    return True


def states_along(book, row):
    """The states to which the beginnings of the row come, from the empty one to the whole row; or BadRow."""
    if not tuple_within(row, 0, LONGEST_ROW):
        raise BadRow(-1)
    moves = [dict(state) for state in book]
    states = [0]
    state = 0
    for index in range(len(row)):
        message = row[index]
        # What is no number may be equal to a message, as True is to 1, or be no key at all.
        if not whole_within(message, 0, GREATEST_MESSAGE) or message not in moves[state]:
            raise BadRow(index)
        state = moves[state][message]
        states.append(state)
    return states


def state_at(book, row):
    """The state to which the row comes."""
    made_book(book)
    return states_along(book, row)[-1]


def rows_from(book, state, many):
    """All rows of at most so many messages that the book lets from this state on, in the order of rows."""
    made_book(book)
    check_state(book, state)
    if not whole_within(many, 0, 8):
        raise BadMany(0)
    rows = [()]
    ends = [((), state)]
    for _ in range(many):
        ends = [(row + (message,), to) for row, at in ends for message, to in book[at]]
        rows.extend([row for row, at in ends])
        if len(rows) > MOST_ROWS:
            raise TooMany(MOST_ROWS)
    return tuple(rows)


def way_to(book, state):
    """The least row that comes to the state."""
    made_book(book)
    check_state(book, state)
    return first_rows(book)[state]


def ends_of(book):
    """The states without messages, rising."""
    made_book(book)
    return tuple([state for state in range(len(book)) if not book[state]])

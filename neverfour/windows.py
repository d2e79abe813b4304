"""Windows: which forks fall, in which round, and which are lasting."""

from neverfour.books import check_state, made_book
from neverfour.common import whole, whole_within
from neverfour.errors import BadWindow
from neverfour.forks import fork_states, led_to

# The windows for which layings are made, and for which readers count by rests.
GREATEST_SMALL = 6


def made_window(thing):
    """The window, or BadWindow."""
    if thing is not None and (not whole(thing) or thing < 1):
        raise BadWindow(0)
    return thing


def check_number(window):
    """BadWindow unless the window is one that is a number."""
    if made_window(window) is None:
        raise BadWindow(0)


def check_small(window):
    """BadWindow unless the window is a number up to 6."""
    if not whole_within(window, 1, GREATEST_SMALL):
        raise BadWindow(0)


def ranks(book, window):
    """For each state None if it is no fork, -1 if it is a lasting one, else its rank."""
    made_book(book)
    check_number(window)
    return ranks_for(book, window)


def lasting(book, window):
    """The lasting forks, rising."""
    made_book(book)
    check_number(window)
    return lasting_for(book, window)


def special(book, window, state):
    """The special message of the state, None if it has none."""
    made_book(book)
    check_number(window)
    check_state(book, state)
    return special_for(book, window, ranks_for(book, window), state)


def special_for(book, window, rank_of, state):
    """What special returns, where the arguments are known to be good and rank_of is what ranks returns."""
    rank = rank_of[state]
    if rank is None or rank == -1:
        return None
    high = [s for s in fork_states(book) if rank_of[s] == -1 or rank_of[s] >= rank]
    leading = leading_to(book, state, window, high)
    if leading:
        return leading[0]
    return book[state][0][0]


def leading_to(book, state, window, goals):
    """The messages of the state that lead to one of the goals within the window less one, rising."""
    out = []
    for message, to in book[state]:
        ends = led_to(book, state, message, window - 1)
        if any([end in goals for end in ends]):
            out.append(message)
    return out


def ranks_for(book, window):
    """What ranks returns, where the arguments are known to be good."""
    rank_of = [None] * len(book)
    standing = list(fork_states(book))
    turn = 0
    while True:
        falling = [fork for fork in standing if len(leading_to(book, fork, window, standing)) < 2]
        if not falling:
            break
        for fork in falling:
            rank_of[fork] = turn
        standing = [fork for fork in standing if fork not in falling]
        turn += 1
    for fork in standing:
        rank_of[fork] = -1
    return tuple(rank_of)


def lasting_for(book, window):
    """What lasting returns, where the arguments are known to be good."""
    rank_of = ranks_for(book, window)
    return tuple([state for state in range(len(book)) if rank_of[state] == -1])

"""The least number of wires."""

from neverfour.books import made_book
from neverfour.forks import fork_states
from neverfour.rings import forks_on_rings, ring_states
from neverfour.windows import lasting_for, made_window

# From the window "number of states plus 1" on nothing changes any more, and there are at most 8 states.
LAST_WINDOW = 9


def least_wires(book, window):
    """The least number of wires on which some laying is right for the window, None if there is none."""
    made_book(book)
    made_window(window)
    return least_for(book, window)


def from_window(book):
    """The least window for which three wires are needed, None if there is none."""
    made_book(book)
    for window in range(1, LAST_WINDOW + 1):
        if least_for(book, window) == 3:
            return window
    return None


def verdict(book):
    """The pair of the least numbers for the windows 1 to 9 and of that without answers."""
    made_book(book)
    return (tuple([least_for(book, window) for window in range(1, LAST_WINDOW + 1)]), least_for(book, None))


def least_for(book, window):
    """What least_wires returns, where the arguments are known to be good."""
    if not book[0]:
        return 0
    if not fork_states(book):
        return 1
    if window is None:
        return least_free(book)
    if lasting_for(book, window):
        return 3
    return 2


def least_free(book):
    """The least number of wires without answers, for a book with a fork."""
    if forks_on_rings(book):
        return None
    counts = ray_counts(book)
    # Every ray goes through the first fork, so the rays are counted by the message that they have there.
    state = 0
    while len(book[state]) == 1:
        state = book[state][0][1]
    behind = [counts[to] for message, to in book[state]]
    if sum(behind) > 2 or max(behind) > 1:
        return 3
    return 2


def ray_counts(book):
    """For each state, how many rows lead from it to a ring and no further, where no fork is on a ring."""
    ring = ring_states(book)
    counts = [0] * len(book)
    # Rows off the rings meet no state twice, so as many rounds as there are states count all of them.
    for _ in range(len(book)):
        counts = [
            1 if state in ring else sum([counts[to] for message, to in book[state]]) for state in range(len(book))
        ]
    return counts

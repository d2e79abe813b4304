"""What several modules share: checks of numbers and tuples, and walks through states and their moves.

Here, states are any list or tuple of states, each a tuple of pairs (message, to); they need not be a book.
"""


def whole(thing):
    """Whether the thing is a number: to Python True and False are ints, too, here they are no numbers."""
    return isinstance(thing, int) and not isinstance(thing, bool)


def whole_within(thing, low, high):
    """Whether the thing is a number from low to high."""
    return whole(thing) and low <= thing <= high


def tuple_within(thing, low, high):
    """Whether the thing is a tuple of low to high items."""
    return isinstance(thing, tuple) and low <= len(thing) <= high


def first_rows(states):
    """The least row to each state that rows come to, by the state, in the order of these rows."""
    rows = {0: ()}
    order = [0]
    done = 0
    while done < len(order):
        state = order[done]
        done += 1
        for message, to in states[state]:
            if to not in rows:
                rows[to] = rows[state] + (message,)
                order.append(to)
    return rows


def by_meeting(states):
    """The states to which rows come, numbered by meeting."""
    order = list(first_rows(states))
    number = {state: k for k, state in enumerate(order)}
    return tuple([tuple([(message, number[to]) for message, to in states[state]]) for state in order])


def least_states(states):
    """The fewest states with the same rows, numbered by meeting."""
    kinds = [0] * len(states)
    many = 1
    while True:
        # States of one kind have the same ways of so many messages as rounds have passed.
        signs = [tuple([(message, kinds[to]) for message, to in moves]) for moves in states]
        numbers = {}
        for sign in signs:
            if sign not in numbers:
                numbers[sign] = len(numbers)
        if len(numbers) == many:
            return by_meeting(list(numbers))
        kinds = [numbers[sign] for sign in signs]
        many = len(numbers)

"""Which books have the same rows."""

from neverfour.books import made_book
from neverfour.common import least_states


def least_book(book):
    """The book with the same rows that has the fewest states."""
    made_book(book)
    return least_states(book)


def alike(one, two):
    """Whether the two books have the same rows."""
    made_book(one)
    made_book(two)
    return least_states(one) == least_states(two)


def part_row(one, two):
    """The least row that exactly one of the two books has, None if they are alike."""
    made_book(one)
    made_book(two)
    for row, first, second in met_pairs(one, two):
        messages = [message for message, to in one[first]]
        others = [message for message, to in two[second]]
        single = [m for m in messages if m not in others] + [m for m in others if m not in messages]
        if single:
            return row + (min(single),)
    return None


def within(one, two):
    """Whether all rows of the first book are rows of the second one."""
    made_book(one)
    made_book(two)
    for _, first, second in met_pairs(one, two):
        others = [message for message, to in two[second]]
        for message, to in one[first]:
            if message not in others:
                return False
    return True


def met_pairs(one, two):
    """Each pair of states to which one row of both books comes, behind its least such row, in the order of rows."""
    pairs = [((), 0, 0)]
    known = {(0, 0): True}
    done = 0
    while done < len(pairs):
        row, first, second = pairs[done]
        done += 1
        others = dict(two[second])
        for message, to in one[first]:
            if message in others and (to, others[message]) not in known:
                known[(to, others[message])] = True
                pairs.append((row + (message,), to, others[message]))
    return pairs

"""What several modules share: checks of numbers and tuples, and walks through states and their moves.

Here, states are any list or tuple of states, each a tuple of pairs (message, to); they need not be a book.
"""


def whole(thing):
    """Whether the thing is a number: to Python True and False are ints, too, here they are no numbers."""
    return isinstance(thing, int) and not isinstance(thing, bool)


def whole_within(thing, low, high):
    """Whether the thing is a number from low to high."""
    return whole(thing) and low <= thing <= high


def tuple_within(thing, low, high):
    """Whether the thing is a tuple of low to high items."""
    return isinstance(thing, tuple) and low <= len(thing) <= high


def first_rows(states, start=0):
    """The least row from the start to each state that rows from there come to, by the state, in the order of rows."""
    rows = {start: ()}
    order = [start]
    done = 0
    while done < len(order):
        state = order[done]
        done += 1
        for message, to in states[state]:
            if to not in rows:
                rows[to] = rows[state] + (message,)
                order.append(to)
    return rows


def by_meeting(states):
    """The states to which rows come, numbered by meeting."""
    order = list(first_rows(states))
    number = {state: k for k, state in enumerate(order)}
    return tuple([tuple([(message, number[to]) for message, to in states[state]]) for state in order])


def least_states(states):
    """The fewest states with the same rows, numbered by meeting."""
    kinds = [0] * len(states)
    many = 1
    while True:
        # States of one kind have the same ways of so many messages as rounds have passed.
        signs = [tuple([(message, kinds[to]) for message, to in moves]) for moves in states]
        numbers = {}
        for sign in signs:
            if sign not in numbers:
                numbers[sign] = len(numbers)
        if len(numbers) == many:
            return by_meeting(list(numbers))
        kinds = [numbers[sign] for sign in signs]
        many = len(numbers)


def ring_groups(ahead):
    """The groups of places that lead to one another, each behind all groups to which it leads.

    ahead has, for each place, the places to which its moves lead.
    """
    back = [[] for _ in ahead]
    for place in range(len(ahead)):
        for to in ahead[place]:
            back[to].append(place)
    known = [False] * len(ahead)
    groups = []
    # Of the places that are not known, the one left last leads to its group, and no other group leads back to it.
    for start in reversed(left_order(ahead)):
        if not known[start]:
            known[start] = True
            group = [start]
            done = 0
            while done < len(group):
                place = group[done]
                done += 1
                for other in back[place]:
                    if not known[other]:
                        known[other] = True
                        group.append(other)
            groups.append(group)
    groups.reverse()
    return groups


def left_order(ahead):
    """All places in the order in which a walk leaves them that goes as deep as it can and enters each one once."""
    order = []
    known = [False] * len(ahead)
    for start in range(len(ahead)):
        open_places = [] if known[start] else [(start, 0)]
        known[start] = True
        while open_places:
            place, done = open_places.pop()
            if done == len(ahead[place]):
                order.append(place)
                continue
            open_places.append((place, done + 1))
            to = ahead[place][done]
            if not known[to]:
                known[to] = True
                open_places.append((to, 0))
    return order


def lone_places(ahead):
    """The places from which there is one way at most, however long it is, as the keys of a dict.

    ahead has, for each place, the places to which its moves lead.
    """
    back = [[] for _ in ahead]
    parting = []
    for place in range(len(ahead)):
        for to in ahead[place]:
            back[to].append(place)
        if len(ahead[place]) > 1:
            parting.append(place)
    known = {place: True for place in parting}
    while parting:
        place = parting.pop()
        for before in back[place]:
            if before not in known:
                known[before] = True
                parting.append(before)
    return {place: True for place in range(len(ahead)) if place not in known}

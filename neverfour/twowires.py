"""Layings on two wires for a window for which no fork is lasting.

At a fork the messages have an order. On wire 0, each has more pulses than all ahead of it together with what follows
them within the window, and on wire 1 than all behind it; so none is covered by another one.
"""

from neverfour.books import made_book
from neverfour.errors import HasLasting
from neverfour.layings import numbered_by_meeting
from neverfour.windows import check_small, lasting_for, ranks_for, special_for


def two_wires(book, window):
    """The laying on two wires that is right for the window."""
    made_book(book)
    check_small(window)
    bad = lasting_for(book, window)
    if bad:
        raise HasLasting(bad[0])
    plan = Plan(book, window)
    numbers = numbered_by_meeting(plan.first(), plan.behind)
    heads = [[numbers[to] for to in plan.behind(place)] for place in numbers]
    columns = []
    for wire in (0, 1):
        column = Column(window, heads, [plan.order(place, wire) for place in numbers], 1 - wire)
        columns.append([column.numbers(place) for place in range(len(heads))])
    places = []
    for place, ahead, zero, one in zip(list(numbers), heads, columns[0], columns[1]):
        places.append((place[0], tuple([(to, (x, y)) for to, x, y in zip(ahead, zero, one)])))
    return (2, tuple(places))


class Plan:
    """The places (state, wire, count, flags), for the window 1 (state,), and where their messages lead."""

    def __init__(self, book, window):
        self.states = book
        self.window = window
        self.ranks = ranks_for(book, window)
        self.special = [special_for(book, window, self.ranks, state) for state in range(len(book))]

    def first(self):
        """The first place."""
        if self.window == 1:
            return (0,)
        greatest = max([-1] + [rank for rank in self.ranks if rank is not None])
        return (0, 0, self.window - 1, (0,) * (greatest + 1))

    def behind(self, place):
        """The places to which the messages of the place lead."""
        return [self.led(place, message, to) for message, to in self.states[place[0]]]

    def led(self, place, message, to):
        """The place to which the message leads, behind which the book is in the state to."""
        if self.window == 1:
            return (to,)
        state, wire, count, flags = place
        rank = self.ranks[state]
        if rank is not None and message != self.special[state]:
            flag = 1 - flags[rank]
            return (to, flag, self.window - 1, flags[:rank] + (flag,) + flags[rank + 1:])
        if count == 1:
            return (to, 1 - wire, self.window - 1, flags)
        return (to, wire, count - 1, flags)

    def order(self, place, wire):
        """The indexes of the messages of the place in the order in which their numbers on the wire rise.

        It is None if the state has one message or none.
        """
        state = place[0]
        messages = [message for message, to in self.states[state]]
        if len(messages) < 2:
            return None
        order = [index for index in range(len(messages)) if messages[index] != self.special[state]]
        special = messages.index(self.special[state])
        if self.window > 1 and place[1] == 1:
            order = [special] + order
        else:
            order = order + [special]
        if wire == 1:
            order.reverse()
        return order


class Column:
    """The numbers of the messages on one wire.

    What is asked for is a key: (place, 0) for the numbers of the messages of the place, and (place, many) for the
    greatest sum of a row of at most so many messages from there on. What a key rests on may rest on other keys in
    turn, one behind another for as many places as there are, so open keys are kept in a list.
    """

    def __init__(self, window, heads, orders, single):
        self.window = window
        self.heads = heads
        self.orders = orders
        self.single = single
        self.known = {}

    def numbers(self, place):
        """The numbers of the messages of the place."""
        keys = [(place, 0)]
        while keys:
            key = keys[-1]
            lacking = [other for other in self.rests_on(key) if other not in self.known]
            if lacking:
                keys.extend(lacking)
                continue
            if key not in self.known:
                self.known[key] = self.found(key)
            keys.pop()
        return self.known[(place, 0)]

    def rests_on(self, key):
        """The keys that must be known for this one."""
        place, many = key
        if many > 1:
            return [(place, 0)] + [(to, many - 1) for to in self.heads[place]]
        if many == 1:
            return [(place, 0)]
        if self.orders[place] is None or self.window == 1:
            return []
        return [(self.heads[place][index], self.window - 1) for index in self.orders[place][:-1]]

    def found(self, key):
        """What is asked for, where all that it rests on is known."""
        place, many = key
        if many == 0:
            return self.numbers_found(place)
        numbers = self.known[(place, 0)]
        sums = [number + self.follows(to, many - 1) for number, to in zip(numbers, self.heads[place])]
        return max(sums, default=0)

    def follows(self, place, many):
        """The greatest sum of a row of at most so many messages from the place on."""
        if many == 0:
            return 0
        return self.known[(place, many)]

    def numbers_found(self, place):
        """The numbers of the messages of the place, where all that they rest on is known."""
        order = self.orders[place]
        if order is None:
            return [self.single for _ in self.heads[place]]
        numbers = [0] * len(order)
        least = 0
        for index in order:
            numbers[index] = least
            if index != order[-1]:
                least = max(least, numbers[index] + self.follows(self.heads[place][index], self.window - 1) + 1)
        return numbers

"""What a hearer without answers can be sure of."""

from neverfour.books import LONGEST_ROW, made_book
from neverfour.common import ring_groups
from neverfour.cover import Goal, check_size, sums_behind
from neverfour.errors import BadCounts, TooMany
from neverfour.layings import check_carrying, seen_part
from neverfour.lots import lot_on


def sure(book, laying, counts):
    """The longest row with which all rows begin below whose totals the counts lie, None if there is no such row."""
    made_book(book)
    check_carrying(book, laying)
    if not lot_on(counts, laying[0]):
        raise BadCounts(0)
    check_size(counts)
    path = Path(book, laying, counts)
    if not path.hopeful(0, path.total):
        return None
    while path.go_on():
        if len(path.messages) > LONGEST_ROW:
            raise TooMany(len(path.messages) + path.rounds())
    return tuple(path.messages)


class Path:
    """The way along messages that are sure, with the place, and the total as far as the counts reach."""

    def __init__(self, book, laying, counts):
        wires, self.places = seen_part(book, laying)
        self.choices = [[message for message, to in book[state]] for state, moves in self.places]
        self.goal = Goal(counts)
        groups = ring_groups([[to for to, lot in moves] for state, moves in self.places])
        self.known = sums_behind(groups, self.places, self.goal)
        self.place = 0
        self.total = (0,) * len(self.goal.tops)
        self.messages = []

    def hopeful(self, place, total):
        """Whether some row from the place brings what the total lacks."""
        lack = tuple([top - number for top, number in zip(self.goal.tops, total)])
        return self.goal.sums.holds(self.known[place], lack)

    def step(self, place, total):
        """The only step (message, place, lot) behind this place and total, None if rows may end or part here."""
        if total == self.goal.tops:
            return None
        steps = []
        for message, (to, lot) in zip(self.choices[place], self.places[place][1]):
            if self.hopeful(to, self.goal.plus(total, lot)):
                steps.append((message, to, lot))
        return steps[0] if len(steps) == 1 else None

    def go_on(self):
        """Goes one message on if one is sure; whether one is."""
        step = self.step(self.place, self.total)
        if step is None:
            return False
        message, self.place, lot = step
        self.total = self.goal.plus(self.total, lot)
        self.messages.append(message)
        return True

    def rounds(self):
        """How many messages more are sure, where so many are that the way goes round from its place to its place.

        A way that ends or parts within a round does so within each later round, too, as its total is greater then.
        """
        many, brought, whole_round = self.round_from(self.total)
        if not whole_round:
            return many
        low, high = 0, max(self.goal.tops)
        while high - low > 1:
            middle = (low + high) // 2
            if self.round_from(self.behind(brought, middle))[2]:
                low = middle
            else:
                high = middle
        return high * many + self.round_from(self.behind(brought, high))[0]

    def behind(self, brought, rounds):
        """The total behind so many rounds that bring so much each."""
        tops = self.goal.tops
        return tuple([min(number + rounds * more, top) for number, more, top in zip(self.total, brought, tops)])

    def round_from(self, total):
        """How many messages are sure in one round, how much they bring, and whether they are the whole round."""
        place = self.place
        brought = (0,) * len(total)
        many = 0
        step = self.step(place, total)
        while step is not None:
            _, place, lot = step
            many += 1
            total = self.goal.plus(total, lot)
            brought = self.goal.plus(brought, lot)
            if place == self.place:
                return (many, brought, True)
            step = self.step(place, total)
        return (many, brought, False)

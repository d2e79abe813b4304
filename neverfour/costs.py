"""Costs: how many pulses rows have, and how many for each message they need in the long run."""

from math import gcd

from neverfour.books import made_book, made_row
from neverfour.common import ring_groups, whole_within
from neverfour.errors import BadMany
from neverfour.layings import check_laying, lots_along, seen_part, total_of

LONGEST_DEAR = 60


def pulses_of(book, laying, row):
    """The pulses of the row."""
    made_book(book)
    check_laying(book, laying)
    made_row(book, row)
    return sum(total_of(laying[0], lots_along(book, laying, row)))


def dearest(book, laying, many):
    """The greatest number of pulses of a row of at most so many messages."""
    made_book(book)
    check_laying(book, laying)
    if not whole_within(many, 0, LONGEST_DEAR):
        raise BadMany(0)
    steps = priced_steps(book, laying)
    tops = [0] * len(steps)
    for _ in range(many):
        tops = [max([pulses + tops[to] for to, pulses in ways], default=0) for ways in steps]
    return tops[0]


def pace(book, laying):
    """The greatest pace of a ring of places, as a numerator and a denominator, None if there is no such ring."""
    made_book(book)
    check_laying(book, laying)
    steps = priced_steps(book, laying)
    best = None
    for group in ring_groups([[to for to, pulses in ways] for ways in steps]):
        number = {group[k]: k for k in range(len(group))}
        inner = [[(number[to], pulses) for to, pulses in steps[place] if to in number] for place in group]
        if inner[0]:
            found = Rings(inner).fastest()
            if best is None or found[0] * best[1] > best[0] * found[1]:
                best = found
    if best is None:
        return None
    part = gcd(best[0], best[1])
    return (best[0] // part, best[1] // part)


def priced_steps(book, laying):
    """For each place to which rows come, in the order of met, a pair (to, pulses) for each message."""
    return [[(to, sum(lot)) for to, lot in moves] for state, moves in seen_part(book, laying)[1]]


class Rings:
    """The search for the ring with the greatest pace among places all of which lead to one another.

    Each place has one step that is chosen for it. The chosen steps lead round some rings, of which the best one is
    taken; then each place is worth what the chosen steps from it bring more, up to that ring, than its pace would.
    As long as another step brings more than the chosen one, it is chosen instead: then a ring of a greater pace comes
    about, or the places are worth more, so that this ends, and at its end no ring has a greater pace.
    """

    def __init__(self, steps):
        self.steps = steps
        self.sources = [[] for _ in steps]
        for place in range(len(steps)):
            for to, pulses in steps[place]:
                self.sources[to].append((place, pulses))
        self.chosen = [max(ways, key=lambda step: step[1]) for ways in steps]

    def fastest(self):
        """The pulses and the messages of the ring."""
        better = True
        while better:
            pulses, messages, start = self.best_ring()
            better = self.choose(self.worth(pulses, messages, start), pulses, messages)
        return (pulses, messages)

    def best_ring(self):
        """The pulses, the messages and a place of the best ring of chosen steps."""
        best = None
        walk_of = [None] * len(self.steps)
        for start in range(len(self.steps)):
            place = start
            while walk_of[place] is None:
                walk_of[place] = start
                place = self.chosen[place][0]
            if walk_of[place] == start:
                pulses, messages = self.round_at(place)
                if best is None or pulses * best[1] > best[0] * messages:
                    best = (pulses, messages, place)
        return best

    def round_at(self, start):
        """The pulses and the messages of the ring of chosen steps on which the place is."""
        place, pulses = self.chosen[start]
        messages = 1
        while place != start:
            place, more = self.chosen[place]
            pulses += more
            messages += 1
        return (pulses, messages)

    def worth(self, pulses, messages, start):
        """What each place is worth, times the messages of the ring; each gets chosen steps that lead to the start."""
        worth = [None] * len(self.steps)
        worth[start] = 0
        order = [start]
        done = 0
        while done < len(order):
            to = order[done]
            done += 1
            for place, more in self.sources[to]:
                if worth[place] is None and self.chosen[place] == (to, more):
                    worth[place] = messages * more - pulses + worth[to]
                    order.append(place)
        done = 0
        while done < len(order):
            to = order[done]
            done += 1
            for place, more in self.sources[to]:
                if worth[place] is None:
                    self.chosen[place] = (to, more)
                    worth[place] = messages * more - pulses + worth[to]
                    order.append(place)
        return worth

    def choose(self, worth, pulses, messages):
        """Chooses the step that brings the most, where it brings more than the chosen one; whether one does."""
        better = False
        for place in range(len(self.steps)):
            for to, more in self.steps[place]:
                brought = messages * more - pulses + worth[to]
                if brought > worth[place]:
                    # Places that come later may use at once that this one is worth more.
                    worth[place] = brought
                    self.chosen[place] = (to, more)
                    better = True
        return better

"""How soon one message is covered by rows that begin with another one.

What a search knows of a place is which sums rows have there. All sums are cut at the goal, the lot that is to be
covered, and a wire on which the goal is 0 is left out. The number of messages is found level by level; at a place
a sum is of no use if a greater one came there as soon, so the objects below keep sums together with all lesser ones.
"""

from heapq import heappop, heappush

from neverfour.books import check_message, made_book
from neverfour.common import first_rows, lone_places, whole_within
from neverfour.errors import BadPlace, Same, TooMany
from neverfour.layings import check_laying, lots_of, moves_of
from neverfour.lots import sum_of

GREATEST_SIZE = 20000
# With so many powers of two there are more messages than bring 20,000 pulses round a ring of 2,000 places.
POWERS = 26


def soonest(book, laying, place, a, b):
    """The least number of messages of a row from the place that begins with b and covers a, None if there is none."""
    made_book(book)
    check_laying(book, laying)
    if not whole_within(place, 0, len(laying[1]) - 1) or place not in first_rows(moves_of(book, laying)):
        raise BadPlace(place)
    state = laying[1][place][0]
    check_message(book, state, a)
    check_message(book, state, b)
    if a == b:
        raise Same(0)
    lots = lots_of(book, laying)[place]
    check_size(lots[a])
    return least_cover(laying[1], lots[a], dict(moves_of(book, laying)[place])[b], lots[b])


def size_of(lot):
    """The size of the lot."""
    size = 1
    for number in lot:
        size *= number + 1
    return size


def check_size(lot):
    """TooMany if the lot is too great to be asked for."""
    size = size_of(lot)
    if size > GREATEST_SIZE:
        raise TooMany(size)


class Goal:
    """A lot that is to be covered, as the search knows it."""

    def __init__(self, lot):
        self.lot = lot
        self.wires = [wire for wire in range(len(lot)) if lot[wire] > 0]
        self.tops = self.cut(lot)
        self.sums = OneWire(self.tops[0]) if len(self.tops) == 1 else ManyWires(self.tops)

    def cut(self, lot):
        """The numbers of the lot on the wires that matter, none greater than that of the goal."""
        return tuple([min(lot[wire], self.lot[wire]) for wire in self.wires])

    def plus(self, total, lot):
        """The cut sum of a cut one and a lot."""
        return tuple([min(number + lot[wire], top) for number, wire, top in zip(total, self.wires, self.tops)])

    def full_with(self, known, total):
        """Whether the goal is reached if so much, a cut sum, comes to what is known."""
        return self.sums.holds(known, tuple([top - number for top, number in zip(self.tops, total)]))

    def of_sum(self, lot):
        """What is known behind a message with this cut lot."""
        return self.sums.raised(self.sums.nothing(), self.sums.change(lot))


def least_cover(places, goal_lot, start, lot):
    """The least number of messages that cover a lot; the first one has this lot and leads to the place start."""
    goal = Goal(goal_lot)
    first = goal.cut(lot)
    if first == goal.tops:
        return 1
    moves = cut_moves(places, start, goal)
    if first_lacking(moves, first, goal.tops) is not None:
        return None
    steps = steps_of(moves, start)
    search = Search(goal, lambda place: steps[place], None)
    search.push(1, start, goal.of_sum(first))
    return search.run(None)


def cover_within(places, goal_lot, start, lot, limit, tails):
    """What least_cover tells if it is up to the limit, else None; it looks no further. The limit may be None, too."""
    goal = Goal(goal_lot)
    first = goal.cut(lot)
    if first == goal.tops:
        return 1
    search = Search(goal, lambda place: [(to, 1, goal.cut(behind)) for to, behind in places[place][1]], tails)
    search.push(1, start, goal.of_sum(first))
    return search.run(limit)


def sums_behind(groups, places, goal):
    """What is known, for each place of the groups, of all rows from there; each group is behind those it leads to."""
    sums = goal.sums
    known = {}
    for group in groups:
        reached = sums.nothing()
        inner = (0,) * len(goal.tops)
        for place in group:
            for to, lot in places[place][1]:
                part = goal.cut(lot)
                if to in known:
                    reached = sums.joined(reached, sums.raised(known[to], sums.change(part)))
                else:
                    inner = sum_of(inner, part)
        # Within a group one can go round as often as one likes, past each of its pulses.
        full = tuple([top if number > 0 else 0 for number, top in zip(inner, goal.tops)])
        reached = sums.raised(reached, sums.change(full))
        for place in group:
            known[place] = reached
    return known


def cut_moves(places, start, goal):
    """For each place to which ways from start come, its pairs (to, cut lot)."""
    moves = {}
    ahead = [start]
    while ahead:
        place = ahead.pop()
        if place not in moves:
            moves[place] = [(to, goal.cut(lot)) for to, lot in places[place][1]]
            ahead.extend([to for to, lot in moves[place]])
    return moves


def first_lacking(moves, first, tops):
    """The first wire on which more pulses are needed and no move has any, None if there is none."""
    lots = [lot for pairs in moves.values() for to, lot in pairs]
    for wire in range(len(tops)):
        if first[wire] < tops[wire] and not any([lot[wire] for lot in lots]):
            return wire
    return None


def steps_of(moves, start):
    """For each place of the search, its steps (to, messages, cut lot).

    Where few moves have any pulses, a step is a way of moves without pulses and one with pulses behind them, so that
    long ways without pulses are walked once only; otherwise each move is a step.
    """
    raising = [move for place in moves for move in moves[place] if any(move[1])]
    if len(raising) * len(raising) > sum([len(pairs) for pairs in moves.values()]):
        return {place: [(to, 1, lot) for to, lot in pairs] for place, pairs in moves.items()}
    return {place: long_steps(moves, place) for place in [start] + [to for to, lot in raising]}


def long_steps(moves, place):
    """The steps from the place that have pulses at their last message only."""
    distance = {place: 0}
    order = [place]
    steps = []
    done = 0
    while done < len(order):
        at = order[done]
        done += 1
        for to, lot in moves[at]:
            if any(lot):
                steps.append((to, distance[at] + 1, lot))
            elif to not in distance:
                distance[to] = distance[at] + 1
                order.append(to)
    return steps


class Tails:
    """What rows bring from the lone places, those from which there is one way at most, whatever is said.

    For each power of two up to so many messages as a search may need, and each lone place, there is a pair of the
    place and the lot behind so many messages; who comes to an end stays there.
    """

    def __init__(self, places, wires):
        self.lone = lone_places([[to for to, lot in moves] for state, moves in places])
        pairs = {place: (place, (0,) * wires) for place in self.lone}
        for place in self.lone:
            if places[place][1]:
                pairs[place] = places[place][1][0]
        self.pairs = [pairs]
        while len(self.pairs) < POWERS:
            half = self.pairs[-1]
            self.pairs.append({place: (half[to][0], sum_of(lot, half[to][1])) for place, (to, lot) in half.items()})

    def least(self, place, goal, known):
        """The least number of messages from the lone place with which what is known is full, None if there is none."""
        many = 0
        total = (0,) * len(goal.tops)
        for power in range(POWERS - 1, -1, -1):
            to, lot = self.pairs[power][place]
            behind = goal.plus(total, lot)
            # So many messages are not enough: they are said, and a lesser number of them is looked at next.
            if not goal.full_with(known, behind):
                many += 1 << power
                place = to
                total = behind
        return None if many == (1 << POWERS) - 1 else many + 1


class OneWire:
    """Sums on one wire: what is known is the greatest one."""

    def __init__(self, top):
        self.top = top

    def nothing(self):
        """What is known where no message was said."""
        return 0

    def change(self, lot):
        """What raised takes for this cut lot."""
        return lot[0]

    def raised(self, known, change):
        """What is known behind a message."""
        return min(known + change, self.top)

    def joined(self, one, two):
        """What is known by either."""
        return max(one, two)

    def full(self, known):
        """Whether the goal is reached."""
        return known == self.top

    def holds(self, known, lot):
        """Whether this cut lot is among the sums that are known or below one of them."""
        return lot[0] <= known


class ManyWires:
    """Sums on several wires: what is known is a number with a bit for each sum and for each lesser sum.

    The bit of a sum has the sum of its numbers as its place, each times the step of its wire.
    """

    def __init__(self, tops):
        self.tops = tops
        self.steps = []
        self.size = 1
        for top in tops:
            self.steps.append(self.size)
            self.size *= top + 1
        self.parts = {}

    def nothing(self):
        """What is known where no message was said: the sum of zeros."""
        return 1

    def change(self, lot):
        """What raised takes for this cut lot: a part for each wire on which it has pulses."""
        out = []
        for wire in range(len(lot)):
            if lot[wire] > 0:
                if (wire, lot[wire]) not in self.parts:
                    self.parts[(wire, lot[wire])] = self.part(wire, lot[wire])
                out.append(self.parts[(wire, lot[wire])])
        return out

    def part(self, wire, number):
        """The bits that stay within the goal, how far they go, the bits without pulses, how to copy these."""
        step = self.steps[wire]
        fills = []
        done = 1
        while done < number:
            more = min(done, number - done)
            fills.append(more * step)
            done += more
        return (self.bits(wire, self.tops[wire] + 1 - number), number * step, self.bits(wire, 1), fills)

    def bits(self, wire, many):
        """The bits of all sums whose number on the wire is below this one."""
        step = self.steps[wire]
        length = step * (self.tops[wire] + 1)
        block = (1 << (step * many)) - 1
        while length < self.size:
            # Twice as long each time; what is too long is cut off in the end.
            block |= block << length
            length *= 2
        return block & ((1 << self.size) - 1)

    def raised(self, known, change):
        """What is known behind a message."""
        for stay, shift, bottom, fills in change:
            low = known & bottom
            for by in fills:
                low |= low << by
            # Behind a lot, each sum stands with all lesser ones, also with those below the lot itself.
            known = ((known & stay) << shift) | low
        return known

    def joined(self, one, two):
        """What is known by either."""
        return one | two

    def full(self, known):
        """Whether the goal is reached."""
        return known.bit_length() == self.size

    def holds(self, known, lot):
        """Whether this cut lot is among the sums that are known or below one of them."""
        place = 0
        for wire in range(len(lot)):
            place += lot[wire] * self.steps[wire]
        return (known >> place) & 1 == 1


class Search:
    """A search from level to level, a level being a number of messages, for the least one that reaches the goal."""

    def __init__(self, goal, steps_at, tails):
        self.goal = goal
        self.sums = goal.sums
        self.steps_at = steps_at
        self.tails = tails
        self.ahead = {}
        self.known = {}
        self.levels = []
        self.waiting = {}
        self.best = None

    def push(self, level, place, known):
        """Notes what comes to be known of the place at the level."""
        if level not in self.waiting:
            self.waiting[level] = {}
            heappush(self.levels, level)
        waiting = self.waiting[level]
        if place in waiting:
            known = self.sums.joined(waiting[place], known)
        waiting[place] = known

    def run(self, limit):
        """The least level that reaches the goal, None if none does or, unless the limit is None, none up to it."""
        while self.levels and (limit is None or self.levels[0] < limit):
            if self.best is not None and self.levels[0] >= self.best:
                break
            level = heappop(self.levels)
            arriving = self.waiting.pop(level)
            for place in list(arriving):
                self.arrive(level, place, arriving[place])
        if limit is not None and self.best is not None and self.best > limit:
            return None
        return self.best

    def arrive(self, level, place, known):
        """Goes on from the place if more is known of it now than before."""
        sums = self.sums
        before = self.known.get(place)
        if before is not None:
            known = sums.joined(before, known)
        if known == before:
            return
        self.known[place] = known
        if self.tails is not None and place in self.tails.lone:
            more = self.tails.least(place, self.goal, known)
            if more is not None:
                self.note(level + more)
            return
        for to, many, change in self.steps_from(place):
            behind = sums.raised(known, change)
            if sums.full(behind):
                self.note(level + many)
            elif behind != self.known.get(to):
                self.push(level + many, to, behind)

    def steps_from(self, place):
        """The steps from the place, each one a tuple (to, messages, what raised takes)."""
        if place not in self.ahead:
            steps_at = self.steps_at
            self.ahead[place] = [(to, many, self.sums.change(lot)) for to, many, lot in steps_at(place)]
        return self.ahead[place]

    def note(self, level):
        """Notes that the goal is reached at the level."""
        if self.best is None or level < self.best:
            self.best = level

"""Which layings are right for a window, and a paper against one that is not.

A hunt looks for the row uby with the fewest messages in by that covers a row ua. Its pairs are the places with two
unlike messages a and b of their state; a pair is possible if rows without end bring, on each wire by itself, what it
needs. Short ways behind b are tried one by one. For longer ones, a pair waits at a gate until rows are long enough to
bring so much, and is then searched twice as far as the gate has come; if that is in vain, it sleeps until then.
"""

from neverfour.books import LONGEST_ROW, made_book
from neverfour.common import first_rows, ring_groups
from neverfour.cover import Goal, Tails, check_size, cover_within, sums_behind
from neverfour.errors import BadPaper, TooMany
from neverfour.kernel import shows
from neverfour.layings import check_laying, endless_tops, first_nought, lots_of, more_tops, moves_of, no_tops, seen_part
from neverfour.rings import forks_on_rings
from neverfour.windows import GREATEST_SMALL, made_window

# To search a pair is less work than to watch so many places at the gate.
WATCHED = 8
# So many messages ahead of its end, a way is known to be too short for what it still needs.
FORESIGHT = 32


def right(book, laying, window):
    """Whether the laying is right for the window."""
    check_case(book, laying, window)
    if first_nought(book, laying) is not None:
        return False
    hunt = Hunt(book, laying)
    if window is None:
        return hunt.near(GREATEST_SMALL) is None and not hunt.endless()
    return hunt.least(window) is None


def greatest(book, laying):
    """The greatest window for which the laying is right, None if it is right for every one."""
    made_book(book)
    check_laying(book, laying)
    check_sizes(book, laying)
    if first_nought(book, laying) is not None:
        return 0
    found = Hunt(book, laying).least(None)
    if found is None:
        return None
    return found[0] - 1


def why(book, laying, window):
    """None if the laying is right for the window, otherwise a paper with the fewest messages."""
    check_case(book, laying, window)
    rows = first_rows(moves_of(book, laying))
    bad = first_nought(book, laying)
    if bad is not None:
        return ("nought", rows[bad[0]], bad[1])
    hunt = Hunt(book, laying)
    found = hunt.least(window)
    if found is None:
        return None
    level, index = found
    place, a, b = hunt.pairs[index][:3]
    u = list(rows.values())[place]
    if len(u) + level > LONGEST_ROW:
        raise TooMany(len(u) + level)
    return ("cover", u, a, b, hunt.least_way(index, level - 1))


def made_paper(book, laying, window, thing):
    """The paper, or BadPaper."""
    made_book(book)
    check_laying(book, laying)
    made_window(window)
    if not shows(book, laying, window, thing):
        raise BadPaper(0)
    return thing


def check_case(book, laying, window):
    """Raises what is wrong with a book, a laying and a window, and TooMany if the laying is not to be searched."""
    made_book(book)
    check_laying(book, laying)
    made_window(window)
    if window is None or window > GREATEST_SMALL:
        check_sizes(book, laying)


def check_sizes(book, laying):
    """TooMany for the first lot, of a place that rows come to and that has two messages or more, that is too great."""
    lots = lots_of(book, laying)
    for place in first_rows(moves_of(book, laying)):
        if len(lots[place]) > 1:
            for lot in lots[place].values():
                check_size(lot)


def pairs_of(places, messages):
    """All pairs, each a tuple (place, a, b, lot of a, lot of b, place behind b)."""
    pairs = []
    for place in range(len(places)):
        steps = [(message, to, lot) for message, (to, lot) in zip(messages[place], places[place][1])]
        for a, _, goal in steps:
            pairs.extend([(place, a, b, goal, lot, to) for b, to, lot in steps if b != a])
    return pairs


class Hunt:
    """The hunt for the fewest messages by that cover a message a; the places are those of seen, in its order."""

    def __init__(self, book, laying):
        self.wires, self.places = seen_part(book, laying)
        self.messages = [[message for message, to in book[state]] for state, moves in self.places]
        self.pairs = pairs_of(self.places, self.messages)
        self.needs = [tuple([x - y for x, y in zip(pair[3], pair[4])]) for pair in self.pairs]
        self.groups = ring_groups([[to for to, lot in moves] for state, moves in self.places])
        self.tops = [no_tops(self.places, self.wires)]
        self.asked = None
        self.sums = {}
        tops = endless_tops(self.places, self.wires, self.groups)
        ends = [(index, self.pairs[index][5], self.needs[index]) for index in range(len(self.pairs))]
        self.rounded = bool(forks_on_rings(book))
        self.tails = None
        self.possible = [index for index, place, need in ends if self.enough(tops, place, need)]

    def enough(self, tops, place, need):
        """Whether, on each wire by itself, the tops of the place are as great as what is needed."""
        for wire in range(self.wires):
            top = tops[wire][place]
            if top is not None and need[wire] > top:
                return False
        return True

    def least(self, limit):
        """The least level up to the limit, if there is one, at which a pair is covered, and the first such pair."""
        if limit is None or limit > GREATEST_SMALL:
            return self.near(GREATEST_SMALL) or self.far(limit)
        return self.near(limit)

    def far(self, limit):
        """What least tells, where no pair is covered at a small level."""
        self.tails = Tails(self.places, self.wires)
        if self.rounded:
            return Far(self, limit).by_levels()
        return Far(self, limit).at_once()

    def near(self, limit):
        """What least tells, for small limits."""
        for level in range(1, limit + 1):
            while len(self.tops) < level:
                self.tops.append(more_tops(self.places, self.tops[-1]))
            for index in self.possible:
                if self.covering(index, level - 1) is not None:
                    return (level, index)
        return None

    def covering(self, index, many):
        """The least way of so many messages behind b that covers, None if none does; no shorter one does."""
        place = self.pairs[index][5]
        if self.enough(self.tops[many], place, self.needs[index]):
            return self.way(place, self.needs[index], many)
        return None

    def way(self, place, need, many):
        """The least way from the place that brings what is needed, of so many messages, if no shorter one does."""
        if max(need, default=0) <= 0:
            return ()
        for message, (to, lot) in zip(self.messages[place], self.places[place][1]):
            rest = tuple([x - y for x, y in zip(need, lot)])
            if many > 0 and self.enough(self.tops[many - 1], to, rest):
                behind = self.way(to, rest, many - 1)
                if behind is not None:
                    return (message,) + behind
        return None

    def endless(self):
        """Whether some pair is covered by any number of messages."""
        for index in self.possible:
            if self.coverable(index):
                return True
        return False

    def coverable(self, index):
        """Whether the pair is covered by any number of messages."""
        place, a, b, goal_lot, lot, to = self.pairs[index]
        goal = Goal(goal_lot)
        if self.asked != (place, a):
            ahead = self.reached(place)
            self.asked = (place, a)
            self.sums = sums_behind([group for group in self.groups if ahead[group[0]]], self.places, goal)
        need = self.needs[index]
        return goal.sums.holds(self.sums[to], tuple([max(0, need[wire]) for wire in goal.wires]))

    def reached(self, start):
        """For each place, whether ways from the start come to it."""
        known = [False] * len(self.places)
        known[start] = True
        ahead = [start]
        while ahead:
            place = ahead.pop()
            for to, lot in self.places[place][1]:
                if not known[to]:
                    known[to] = True
                    ahead.append(to)
        return known

    def least_way(self, index, many):
        """The least way of so many messages behind b that covers; no shorter one does."""
        if many < GREATEST_SMALL:
            return self.covering(index, many)
        return LongWay(self, index, many).run()


class Far:
    """The hunt from the level 7 on.

    Without a fork on a ring, ways part a few times only, and each pair is searched at once. With one, some pair is
    covered within one message more than there are places; so the hunt goes on level by level.
    """

    def __init__(self, hunt, limit):
        self.hunt = hunt
        self.limit = limit
        self.best = None
        self.tops = hunt.tops[-1]
        self.waiting = [(index, 0) for index in hunt.possible]
        self.asleep = {}
        self.checked = {}

    def at_once(self):
        """The least level and the first pair, None if there is none up to the limit; no fork is on a ring."""
        for index in self.hunt.possible:
            self.search(index, None)
        return self.best

    def by_levels(self):
        """The least level and the first pair, None if there is none up to the limit."""
        level = GREATEST_SMALL
        while self.waiting or self.asleep:
            level = level + 1 if self.waiting else min(self.asleep)
            if self.limit is not None and level > self.limit:
                break
            if self.best is not None and level > self.best[0]:
                break
            ready = self.passing() + self.asleep.pop(level, [])
            for index in sorted(ready):
                # Twice as far as the level: what has been searched in vain is at most as much as what is left.
                if self.search(index, 2 * level) and self.lasts(index):
                    self.asleep.setdefault(2 * level + 1, []).append(index)
        return self.best

    def passing(self):
        """The pairs that wait no longer from the next level on."""
        hunt = self.hunt
        if len(self.waiting) * WATCHED < len(hunt.places):
            passed = [index for index, wire in self.waiting]
            self.waiting = []
            return passed
        self.tops = more_tops(hunt.places, self.tops)
        passed = []
        waiting = []
        for index, wire in self.waiting:
            place = hunt.pairs[index][5]
            while wire < hunt.wires and hunt.needs[index][wire] <= self.tops[wire][place]:
                wire += 1
            if wire == hunt.wires:
                passed.append(index)
            else:
                waiting.append((index, wire))
        self.waiting = waiting
        return passed

    def search(self, index, reach):
        """Searches the pair up to this level, if it is not None; whether a search that goes further is of use."""
        bound = self.limit
        if self.best is not None:
            bound = self.best[0] if index < self.best[1] else self.best[0] - 1
        further = reach is not None and (bound is None or reach < bound)
        hunt = self.hunt
        _, _, _, goal, lot, to = hunt.pairs[index]
        found = cover_within(hunt.places, goal, to, lot, reach if further else bound, hunt.tails)
        if found is not None:
            self.best = (found, index)
        return further and found is None

    def lasts(self, index):
        """Whether the pair is covered at any level."""
        if index not in self.checked:
            self.checked[index] = self.hunt.coverable(index)
        return self.checked[index]


class LongWay:
    """The search for the least way of so many messages that covers, where no shorter one does.

    Ways are taken in their order; a way is of no use if a lesser one has come to the same place with as great a sum.
    """

    def __init__(self, hunt, index, many):
        self.hunt = hunt
        self.pair = hunt.pairs[index]
        self.many = many
        self.goal = Goal(self.pair[3])
        self.known = {}
        self.trail = [(0, None)]
        self.least = None
        self.tops = [no_tops(hunt.places, hunt.wires)]
        while len(self.tops) < min(many, FORESIGHT):
            self.tops.append(more_tops(hunt.places, self.tops[-1]))

    def run(self):
        """The least way."""
        goal = self.goal
        place, total = self.pair[5], goal.cut(self.pair[4])
        if place in self.hunt.tails.lone:
            return self.lone_way(place, self.many)
        ends = [(place, total, 0)]
        for left in range(self.many - 1, -1, -1):
            ahead = []
            for place, total, node in ends:
                for message, (to, lot) in zip(self.hunt.messages[place], self.hunt.places[place][1]):
                    behind = goal.plus(total, lot)
                    if self.ended(to, behind, left):
                        self.note(self.back(node) + (message,), to, left)
                    elif self.useful(to, behind, left):
                        self.trail.append((node, message))
                        ahead.append((to, behind, len(self.trail) - 1))
            ends = ahead
        return self.least

    def ended(self, place, total, left):
        """Whether from this place one way alone, of the messages left, may cover, and does."""
        if total == self.goal.tops:
            return True
        if place not in self.hunt.tails.lone:
            return False
        return self.hunt.tails.least(place, self.goal, self.goal.of_sum(total)) == left

    def useful(self, place, total, left):
        """Whether a way to the place with this sum may become the least one, with so many messages left to be said."""
        goal = self.goal
        if place in self.hunt.tails.lone:
            return False
        if left < len(self.tops):
            for wire, number in zip(goal.wires, total):
                if goal.lot[wire] - number > self.tops[left][wire][place]:
                    return False
        known = self.known.get(place)
        if known is not None and goal.sums.holds(known, total):
            return False
        new = goal.of_sum(total)
        self.known[place] = new if known is None else goal.sums.joined(known, new)
        return True

    def note(self, way, place, left):
        """Notes a way that covers, with the only messages that can follow, if it is less than all before."""
        if self.least is None or way < self.least[:len(way)]:
            self.least = way + self.lone_way(place, left)

    def lone_way(self, place, many):
        """The only so many messages that can be said from the place."""
        messages = []
        for _ in range(many):
            messages.append(self.hunt.messages[place][0])
            place = self.hunt.places[place][1][0][0]
        return tuple(messages)

    def back(self, node):
        """The way to the node of the trail."""
        messages = []
        while node > 0:
            node, message = self.trail[node]
            messages.append(message)
        return tuple(reversed(messages))

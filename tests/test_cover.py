"""[7], [7.1], [7.3] and neverfour.cover."""

import unittest

from neverfour.cover import soonest
from neverfour.errors import BadBook, BadLaying, BadPlace, NoMessage, Same, Stray, TooMany
from neverfour.layings import made_laying, met

from tests.case import Case, Source, nested

BITS = (((0, 0), (1, 0)),)
PLAIN = (2, ((0, ((0, (1, 0)), (0, (0, 1)))),))
ENDING = (((0, 0), (1, 1)), ())
TURNS = (2, ((0, ((1, (1, 0)), (2, (0, 2)))), (0, ((0, (0, 1)), (2, (2, 0)))), (1, ())))
FIVE = (tuple((m, 0) for m in range(5)),)
GREAT = 10 ** 1200


def plain_soonest(book, laying, place, a, b):
    """The least number of messages by the words of [7.1], pair by pair."""
    def cut(lot):
        return tuple(min(x, y) for x, y in zip(lot, goal))

    state, moves = laying[1][place]
    lots = {pair[0]: move for pair, move in zip(book[state], moves)}
    goal = lots[a][1]
    level = {(lots[b][0], cut(lots[b][1]))}
    known = set(level)
    many = 1
    while level:
        if any(total == goal for at, total in level):
            return many
        many += 1
        ahead = set()
        for at, total in level:
            for to, lot in laying[1][at][1]:
                pair = (to, cut(tuple(x + y for x, y in zip(total, lot))))
                if pair not in known:
                    known.add(pair)
                    ahead.add(pair)
        level = ahead
    return None


def one_goal(source, messages, places, lots, goal):
    """A laying with a book of one state, its place 0 left by all and with the goal as the lot of message 0."""
    book = (tuple((m, 0) for m in range(messages)),)
    out = []
    for place in range(places):
        moves = [(1 + source.below(places - 1), lots[source.below(len(lots))]) for _ in range(messages)]
        if place == 0:
            moves[0] = (1, goal)
        out.append((0, tuple(moves)))
    return book, (len(goal), tuple(out))


def ring(lot, goal):
    """A ring of 1,999 places behind place 0, in which just one place has pulses."""
    zeros = (0,) * len(goal)
    places = [(0, ((1, goal), (1, zeros)))]
    for place in range(1, 2000):
        to = place + 1 if place < 1999 else 1
        places.append((0, ((to, zeros if place != 7 else lot), (to, zeros))))
    return (len(goal), tuple(places))


class Soonest(Case):

    def test_examples(self):
        self.same(soonest(BITS, PLAIN, 0, 0, 1), 2)
        self.same(soonest(BITS, PLAIN, 0, 1, 0), 2)
        self.same(soonest(ENDING, TURNS, 1, 1, 0), 3)
        self.same(soonest(ENDING, TURNS, 0, 0, 1), None)
        self.same(soonest(ENDING, TURNS, 0, 1, 0), 3)
        self.same(soonest(book=ENDING, laying=TURNS, place=1, a=0, b=1), None)

    def test_against_the_plain_way(self):
        source = Source(20)
        told = {}
        for k in range(500):
            book = source.book(4, 3)
            laying = source.laying(book, source.below(5), 3 + source.below(6), 1 + source.below(6))
            for row, place in met(book, laying):
                messages = [m for m, to in book[laying[1][place][0]]]
                for a in messages:
                    for b in messages:
                        if a != b:
                            found = soonest(book, laying, place, a, b)
                            self.same(found, plain_soonest(book, laying, place, a, b))
                            told[found] = told.get(found, 0) + 1
        self.assertGreater(len([n for n in told if told[n] > 5]), 4)
        self.assertGreater(told[None], 50)

    def test_sparse_layings_against_the_plain_way(self):
        # Few messages have pulses here, so that long ways without any are walked.
        source = Source(21)
        told = {}
        for k in range(300):
            wires = 1 + source.below(3)
            goal = tuple(source.below(5) for _ in range(wires))
            lots = [(0,) * wires] * (1 + source.below(12))
            for wire in range(wires):
                lots.append(tuple(1 + source.below(3) if w == wire else 0 for w in range(wires)))
            book, laying = one_goal(source, 2, 12, lots, goal)
            found = soonest(book, laying, 0, 0, 1)
            self.same(found, plain_soonest(book, laying, 0, 0, 1))
            told[found] = told.get(found, 0) + 1
        self.assertGreater(len(told), 12)
        self.assertIn(None, told)

    def test_wires(self):
        # On 0 wires, and below a lot of zeros, everything covers at once.
        self.same(soonest(BITS, (0, ((0, ((0, ()), (0, ()))),)), 0, 0, 1), 1)
        self.same(soonest(BITS, (2, ((0, ((0, (0, 0)), (0, (5, 5)))),)), 0, 0, 1), 1)
        self.same(soonest(BITS, (2, ((0, ((0, (0, 0)), (0, (0, 0)))),)), 0, 0, 1), 1)
        self.same(soonest(BITS, (2, ((0, ((0, (0, 1)), (0, (0, 0)))),)), 0, 0, 1), 2)
        self.same(soonest(BITS, (3, ((0, ((0, (4, 0, 7)), (0, (4, 9, 7)))),)), 0, 0, 1), 1)
        self.same(soonest(BITS, (3, ((0, ((0, (4, 9, 7)), (0, (4, 0, 7)))),)), 0, 0, 1), 2)
        self.same(soonest(BITS, (6, ((0, ((0, (1,) * 6), (0, (0,) * 6))),)), 0, 0, 1), 2)
        book = (((0, 1), (1, 2)), (), ((1, 2),))
        laying = (2, ((0, ((1, (9, 9)), (2, (1, 0)))), (1, ()), (2, ((2, (0, 2)),))))
        self.same(soonest(book, laying, 0, 0, 1), None)
        laying = (2, ((0, ((1, (9, 9)), (2, (9, 0)))), (1, ()), (2, ((2, (0, 2)),))))
        self.same(soonest(book, laying, 0, 0, 1), 6)
        self.same(soonest(book, laying, 0, 1, 0), 1)

    def test_places_that_rows_come_to(self):
        turned = (1, (
            (0, ((2, (1,)), (2, (1,)))), (0, ((1, (1,)), (1, (1,)))), (0, ((0, (3,)), (2, (1,)))), (0, ((3, (1,)),) * 2),
        ))
        self.same(soonest(BITS, turned, 2, 0, 1), 2)
        for place in (1, 3):
            self.refuses(BadPlace, place, soonest, BITS, turned, place, 0, 1)

    def test_sizes(self):
        def laying(lot, other):
            return (len(lot), ((0, ((0, lot), (0, other))),))

        self.same(soonest(BITS, laying((19999,), (1,)), 0, 0, 1), 2)
        self.same(soonest(BITS, laying((19999,), (0,)), 0, 1, 0), 1)
        self.refuses(TooMany, 20001, soonest, BITS, laying((20000,), (1,)), 0, 0, 1)
        self.same(soonest(BITS, laying((20000,), (1,)), 0, 1, 0), 1)
        self.same(soonest(BITS, laying((199, 99), (1, 0)), 0, 0, 1), 2)
        self.refuses(TooMany, 20100, soonest, BITS, laying((200, 99), (0, 1)), 0, 0, 1)
        self.same(soonest(BITS, laying((200, 99), (0, 1)), 0, 1, 0), 1)
        self.same(soonest(BITS, laying((1, 1, 1, 1, 1, 624), (1, 1, 1, 1, 1, 623)), 0, 0, 1), 2)
        self.refuses(TooMany, 20032, soonest, BITS, laying((1, 1, 1, 1, 1, 625), (1,) * 6), 0, 0, 1)
        self.refuses(TooMany, GREAT + 1, soonest, BITS, laying((GREAT,), (1,)), 0, 0, 1)
        self.refuses(TooMany, (GREAT + 1) ** 2, soonest, BITS, laying((GREAT, GREAT), (1, 1)), 0, 0, 1)
        # Only the lot of a counts, great numbers elsewhere are cut.
        self.same(soonest(BITS, laying((2, 3), (GREAT, 1)), 0, 0, 1), 2)
        self.same(soonest(BITS, laying((2, 3), (GREAT, GREAT)), 0, 0, 1), 1)
        three = (((0, 0), (1, 0), (2, 0)),)
        lots = (2, ((0, ((0, (9, 1999)), (0, (0, 1)), (0, (GREAT, 0)))),))
        self.same(soonest(three, lots, 0, 0, 1), 2)
        self.same(soonest(three, (2, ((0, ((0, (199, 99)), (0, (0, 1)), (0, (1, 0)))),)), 0, 0, 1), 2)

    def test_goals_that_are_never_left_again(self):
        # Message 0 leads away for good, so the goal is reached by the others alone.
        book = (((0, 1), (1, 2), (2, 2)), (), ((1, 2), (2, 2)))
        for goal, steps in (((199, 99), 298), ((19999, 0), 19999), ((0, 19999), 19999), ((9999, 1), 10000)):
            laying = (2, ((0, ((1, goal), (2, (1, 0)), (2, (0, 1)))), (1, ()), (2, ((2, (1, 0)), (2, (0, 1))))))
            for b in (1, 2):
                lost = 1 if goal[b - 1] == 0 else 0
                self.same(soonest(book, laying, 0, 0, b), steps + lost)
            self.refuses(TooMany, (goal[0] + 2) * (goal[1] + 1), soonest, book, (2, (
                (0, ((1, (goal[0] + 1, goal[1])), (2, (1, 0)), (2, (0, 1)))), (1, ()), laying[1][2],
            )), 0, 0, 1)

    def test_long_rings(self):
        self.same(soonest(BITS, ring((1,), (19999,)), 0, 0, 1), 1 + 7 + 19998 * 1999)
        self.same(soonest(BITS, ring((1, 1), (199, 99)), 0, 0, 1), 1 + 7 + 198 * 1999)
        self.same(soonest(BITS, ring((3, 1), (19, 999)), 0, 0, 1), 1 + 7 + 998 * 1999)
        self.same(soonest(BITS, ring((3, 0), (19, 999)), 0, 0, 1), None)

    def test_two_thousand_places(self):
        source = Source(22)
        unit = [(1, 0), (0, 1)]
        book, laying = one_goal(source, 5, 2000, unit, (140, 140))
        self.same(made_laying(book, laying), laying)
        self.same(soonest(book, laying, 0, 0, 1), 280)
        # Each move raises one wire by one, so no fewer messages do; lots of all kinds are as many steps at least.
        book, laying = one_goal(source, 3, 2000, [(1, 0, 0), (0, 1, 0), (0, 0, 1)], (26, 26, 26))
        self.same(soonest(book, laying, 0, 0, 2), 78)
        book, laying = one_goal(source, 5, 2000, [tuple(int(k == w) for k in range(6)) for w in range(6)], (4,) * 6)
        self.same(soonest(book, laying, 0, 0, 1), 24)
        book, laying = one_goal(source, 2, 2000, [(0, 0), (1, 0), (2, 0)], (140, 140))
        self.same(soonest(book, laying, 0, 0, 1), None)

    def test_middle_sizes_against_the_plain_way(self):
        source = Source(23)
        for goal in ((40,), (12, 9), (5, 4, 3), (2, 2, 2, 2), (1, 2, 1, 2, 1), (1,) * 6, (30, 0, 2)):
            wires = len(goal)
            lots = [tuple(source.below(3) // 2 * source.below(3) for _ in range(wires)) for _ in range(9)]
            for _ in range(6):
                book, laying = one_goal(source, 3, 60, lots, goal)
                for b in (1, 2):
                    self.same(soonest(book, laying, 0, 0, b), plain_soonest(book, laying, 0, 0, b))

    def test_errors_in_their_order(self):
        great = (1, ((0, ((0, (20000,)), (0, (1,)))),))
        self.refuses(BadBook, -1, soonest, None, None, None, None, None)
        self.refuses(Stray, 1, soonest, ((), ()), None, None, None, None)
        self.refuses(BadLaying, -1, soonest, BITS, None, None, None, None)
        self.refuses(BadLaying, 0, soonest, BITS, (1, (None,)), None, None, None)
        for place in (None, True, False, -1, 1, "0", (), [0], 10 ** 30, nested(20, 0)):
            self.refuses(BadPlace, place, soonest, BITS, great, place, 7, 7)
        for wrong in (None, True, False, -1, 2, 100, "0", (), [0], 10 ** 30, nested(20, 0)):
            self.refuses(NoMessage, wrong, soonest, BITS, great, 0, wrong, wrong)
            self.refuses(NoMessage, wrong, soonest, BITS, great, 0, 0, wrong)
            self.refuses(NoMessage, wrong, soonest, BITS, great, 0, wrong, 0)
        self.refuses(NoMessage, 7, soonest, BITS, great, 0, 7, 8)
        self.refuses(Same, 0, soonest, BITS, great, 0, 0, 0)
        self.refuses(Same, 0, soonest, BITS, great, 0, 1, 1)
        self.refuses(TooMany, 20001, soonest, BITS, great, 0, 0, 1)
        self.refuses(NoMessage, 0, soonest, ENDING, TURNS, 2, 0, 1)


if __name__ == "__main__":
    unittest.main()

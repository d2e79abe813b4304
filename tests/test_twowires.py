"""[8] (By meeting), [8.2], [8.3] and neverfour.twowires."""

import unittest

from neverfour.errors import BadBook, BadWindow, HasLasting, Stray, TooMany
from neverfour.judge import greatest, right
from neverfour.layings import made_laying, seen
from neverfour.least import least_wires
from neverfour.twowires import two_wires
from neverfour.windows import lasting, ranks, special

from tests.case import ENDING, NO_SMALL_NUMBER, ODD, Case, Source, plain_why
from tests.test_windows import BAD_WINDOWS

BITS = (((0, 0), (1, 0)),)
# Books with many places: 2,048 for the window 2, 1,815 for 5, 1,413 for 4.
WIDE2 = (
    ((0, 7), (4, 4), (5, 4), (7, 4)), ((6, 2), (7, 4), (8, 1), (9, 7)),
    ((0, 3), (2, 0), (4, 3), (8, 7), (9, 4)), ((3, 0), (4, 6), (5, 4), (7, 7), (9, 4)), ((1, 2), (3, 7)),
    ((1, 4), (6, 1), (8, 1), (9, 4)), ((2, 5), (3, 4), (5, 5), (7, 3), (9, 7)), ((6, 0),),
)
WIDE4 = (
    ((0, 1), (1, 6), (2, 3), (4, 7), (6, 1)), ((0, 4), (1, 4), (3, 7), (6, 6), (8, 3)),
    ((1, 5), (6, 7), (7, 3), (8, 6), (9, 5)), ((6, 6), (7, 3)), ((1, 2), (2, 6), (5, 7), (7, 3), (9, 2)),
    ((1, 7), (4, 6), (5, 5), (6, 3), (9, 7)), ((9, 6),), ((2, 3), (3, 6), (4, 3), (9, 7)),
)
WIDE5 = (
    ((0, 1), (1, 6), (2, 3), (4, 7), (6, 1)), ((0, 4), (1, 4), (3, 7), (6, 6), (8, 3)),
    ((5, 5), (6, 7), (7, 3), (8, 7), (9, 5)), ((3, 6), (6, 6), (7, 3)), ((1, 2), (2, 6), (5, 7), (7, 3), (9, 2)),
    ((4, 6), (5, 5), (8, 3), (9, 7)), ((9, 6),), ((0, 6), (3, 7), (7, 3)),
)


class PlainTwo:
    """The laying by the words of [8.2] and [8.3]."""

    def __init__(self, book, window):
        self.book, self.window = book, window
        self.ranks = ranks(book, window)
        self.special = [special(book, window, s) for s in range(len(book))]
        self.kept = {}
        flags = max([r for r in self.ranks if r is not None], default=-1) + 1
        self.order = [(0,) if window == 1 else (0, 0, window - 1, (0,) * flags)]
        for place in self.order:
            for message, to in book[place[0]]:
                if self.behind(place, message, to) not in self.order:
                    self.order.append(self.behind(place, message, to))

    def behind(self, place, message, to):
        if self.window == 1:
            return (to,)
        state, wire, count, flags = place
        if self.ranks[state] is not None and message != self.special[state]:
            turned = list(flags)
            turned[self.ranks[state]] = 1 - turned[self.ranks[state]]
            return (to, turned[self.ranks[state]], self.window - 1, tuple(turned))
        if count - 1 == 0:
            return (to, 1 - wire, self.window - 1, flags)
        return (to, wire, count - 1, flags)

    def follows(self, place, wire, many):
        if many == 0:
            return 0
        if (place, wire, many) not in self.kept:
            numbers = self.numbers(place, wire)
            sums = [numbers[m] + self.follows(self.behind(place, m, to), wire, many - 1) for m, to in self.book[place[0]]]
            self.kept[(place, wire, many)] = max(sums, default=0)
        return self.kept[(place, wire, many)]

    def numbers(self, place, wire):
        state = dict(self.book[place[0]])
        if len(state) == 1:
            return {min(state): 1 - wire}
        if (place, wire) not in self.kept:
            own = self.special[place[0]]
            order = [m for m in sorted(state) if m != own]
            if state:
                order = order + [own] if self.window == 1 or place[1] == 0 else [own] + order
            if wire == 1:
                order.reverse()
            out = {}
            for k, message in enumerate(order):
                told = [out[m] + self.follows(self.behind(place, m, state[m]), wire, self.window - 1) for m in order[:k]]
                out[message] = 0 if k == 0 else 1 + max(told)
            self.kept[(place, wire)] = out
        return self.kept[(place, wire)]

    def laying(self):
        out = []
        for place in self.order:
            zero, one = self.numbers(place, 0), self.numbers(place, 1)
            moves = [(self.order.index(self.behind(place, m, to)), (zero[m], one[m])) for m, to in self.book[place[0]]]
            out.append((place[0], tuple(moves)))
        return (2, tuple(out))


class TwoWires(Case):

    def test_examples(self):
        self.same(two_wires(BITS, 1), (2, ((0, ((0, (1, 0)), (0, (0, 1)))),)))
        turns = (2, ((0, ((1, (1, 0)), (2, (0, 2)))), (0, ((0, (0, 1)), (2, (2, 0)))), (1, ())))
        self.same(two_wires(ENDING, 2), turns)
        self.same(two_wires(book=ENDING, window=2), turns)

    def test_against_the_plain_way(self):
        source = Source(51)
        told = {}
        for k in range(250):
            book = source.book(1 + source.below(8), 1 + source.below(4))
            for window in range(1, 7):
                if lasting(book, window):
                    self.refuses(HasLasting, lasting(book, window)[0], two_wires, book, window)
                    continue
                plain = PlainTwo(book, window)
                if len(plain.order) <= 300:
                    self.same(two_wires(book, window), plain.laying())
                    told[window] = told.get(window, 0) + 1
        self.assertGreater(min(told[window] for window in range(1, 7)), 30)

    def test_right_by_a_plain_search(self):
        source = Source(52)
        for k in range(120):
            book = source.book(4, 3)
            for window in range(1, 5):
                if not lasting(book, window):
                    laying = two_wires(book, window)
                    self.same(made_laying(book, laying), laying)
                    self.assertTrue(all(any(lot) for _, moves in laying[1] for _, lot in moves))
                    self.same(plain_why(book, laying, window), None)

    def test_right_for_all_windows(self):
        source = Source(53)
        many = 0
        for k in range(300):
            book = source.book(8, 5, 12)
            for window in range(1, 7):
                if not lasting(book, window):
                    laying = two_wires(book, window)
                    self.same(right(book, laying, window), True)
                    self.same(seen(book, made_laying(book, laying)), laying)
                    self.assertLessEqual(least_wires(book, window), 2)
                    many += 1
        self.assertGreater(many, 500)

    def test_books_without_forks(self):
        self.same(two_wires(((),), 1), (2, ((0, ()),)))
        self.same(two_wires(((),), 6), (2, ((0, ()),)))
        # The count runs out in the window 2 with each message, so that both wires have a place.
        self.same(two_wires((((5, 0),),), 2), (2, ((0, ((1, (1, 0)),)), (0, ((0, (1, 0)),)))))
        self.same(two_wires((((5, 0),),), 1), (2, ((0, ((0, (1, 0)),)),)))
        self.same(len(two_wires((((5, 0),),), 6)[1]), 10)

    def test_many_places(self):
        for book, window, many in ((WIDE4, 4, 1413), (WIDE5, 5, 1815)):
            laying = two_wires(book, window)
            self.same(len(made_laying(book, laying)[1]), many)
            self.same(right(book, laying, window), True)
            self.same(laying, PlainTwo(book, window).laying())
        self.refuses(TooMany, 2000, two_wires, WIDE2, 2)

    def test_great_numbers(self):
        chain = tuple(((0, s), (1, s + 1)) for s in range(7)) + ((),)
        laying = two_wires(chain, 6)
        self.same(right(chain, laying, 6), True)
        self.assertGreater(max(number for _, moves in laying[1] for _, lot in moves for number in lot), 1000000)
        self.refuses(TooMany, 1 + 1111061, greatest, chain, laying)

    def test_errors(self):
        self.refuses(BadBook, -1, two_wires, None, 0)
        self.refuses(Stray, 1, two_wires, ((), ()), 0)
        for window in NO_SMALL_NUMBER[:-2] + BAD_WINDOWS + (7, 0, 10 ** 30):
            if window != 6:
                self.refuses(BadWindow, 0, two_wires, BITS, window)
        self.refuses(HasLasting, 0, two_wires, BITS, 2)
        self.refuses(HasLasting, 1, two_wires, (((0, 1), (3, 2)), ((1, 0), (2, 1)), ()), 3)
        for thing in ODD:
            with self.assertRaises(ValueError):
                two_wires(thing, 1)


if __name__ == "__main__":
    unittest.main()

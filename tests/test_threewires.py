"""[8] (By meeting), [8.4] and neverfour.threewires."""

import unittest

from neverfour.errors import BadBook, BadWindow, Stray, TooMany
from neverfour.judge import right
from neverfour.layings import made_laying, seen
from neverfour.threewires import three_wires

from tests.case import ENDING, ODD, Case, Source, plain_why
from tests.test_windows import BAD_WINDOWS

BITS = (((0, 0), (1, 0)),)


def batch(book, state, window, order):
    """The rows of the batch from the state, numbered; order turns the messages of a state as asked."""
    numbers = {}

    def go(row, at):
        numbers[row] = len(numbers)
        if len(row) < window:
            for message, to in order(book[at]):
                go(row + (message,), to)

    go((), state)
    return numbers


def plain_three(book, window):
    """The laying by the words of [8.4]."""
    x = [batch(book, s, window, list) for s in range(len(book))]
    y = [batch(book, s, window, lambda moves: list(reversed(moves))) for s in range(len(book))]
    most = max(len(numbers) for numbers in x)

    def behind(place, message, to):
        state, start, row, wire = place
        if len(row) + 1 < window:
            return (to, start, row + (message,), wire)
        return (to, to, (), (wire + 1) % 3)

    numbers = {(0, 0, (), 0): 0}
    order = [(0, 0, (), 0)]
    for place in order:
        for message, to in book[place[0]]:
            other = behind(place, message, to)
            if other not in numbers:
                numbers[other] = len(numbers)
                order.append(other)
    places = []
    for place in order:
        state, start, row, wire = place
        moves = []
        for message, to in book[state]:
            lot = [0, 0, 0]
            longer = row + (message,)
            lot[wire] = x[start][longer] - x[start][row]
            lot[(wire + 1) % 3] = most * (y[start][longer] - y[start][row])
            moves.append((numbers[behind(place, message, to)], tuple(lot)))
        places.append((state, tuple(moves)))
    return (3, tuple(places))


class ThreeWires(Case):

    def test_examples(self):
        told = (3, ((0, ((1, (1, 6, 0)), (1, (2, 3, 0)))), (0, ((2, (0, 1, 6)), (2, (0, 2, 3)))),
                    (0, ((0, (6, 0, 1)), (0, (3, 0, 2))))))
        self.same(three_wires(BITS, 1), told)
        self.same(three_wires(book=BITS, window=1), told)
        self.same(three_wires(((),), 6), (3, ((0, ()),)))
        self.same(three_wires((((7, 0),),), 1)[1][0], (0, ((1, (1, 2, 0)),)))

    def test_against_the_plain_way(self):
        source = Source(54)
        many = 0
        for k in range(150):
            book = source.book(1 + source.below(8), 1 + source.below(4))
            for window in range(1, 7):
                most = max(len(batch(book, s, window, list)) for s in range(len(book)))
                if most > 2000:
                    self.refuses(TooMany, most, three_wires, book, window)
                elif most < 300:
                    expected = plain_three(book, window)
                    if len(expected[1]) > 2000:
                        self.refuses(TooMany, 2000, three_wires, book, window)
                    else:
                        self.same(three_wires(book, window), expected)
                        many += 1
        self.assertGreater(many, 300)

    def test_right_by_a_plain_search(self):
        source = Source(55)
        for k in range(40):
            book = source.book(3, 2)
            for window in (1, 2):
                laying = three_wires(book, window)
                self.same(made_laying(book, laying), laying)
                self.same(plain_why(book, laying, window), None)

    def test_right_for_all_windows(self):
        source = Source(56)
        many = 0
        for k in range(60):
            book = source.book(8, 4, 9)
            for window in range(1, 7):
                try:
                    laying = three_wires(book, window)
                except TooMany:
                    continue
                self.same(right(book, laying, window), True)
                self.same(seen(book, made_laying(book, laying)), laying)
                many += 1
        self.assertGreater(many, 100)

    def test_the_bounds(self):
        five = (tuple((m, 0) for m in range(5)),)
        three = (((0, 0), (1, 0), (2, 0)),)
        four = (((0, 0), (1, 0), (2, 0), (3, 0)),)
        self.same(len(three_wires(three, 6)[1]), 3 * 364)
        self.same(len(three_wires(five, 4)[1]), 3 * 156)
        self.same(len(three_wires(four, 5)[1]), 3 * 341)
        self.refuses(TooMany, 3906, three_wires, five, 5)
        self.refuses(TooMany, 19531, three_wires, five, 6)
        self.refuses(TooMany, 5461, three_wires, four, 6)
        # Books with batches of 2,000 and 2,001 rows, and layings with 1,999 and 2,001 places.
        rows2000 = (((0, 3), (8, 1)), ((1, 0), (4, 5)), ((7, 0),), ((2, 3), (3, 5), (6, 4), (8, 0)),
                    ((0, 4), (1, 5), (3, 3), (6, 2), (7, 1)), ((1, 5), (4, 0), (7, 3)))
        rows2001 = (((0, 3), (4, 2), (5, 0), (7, 0)), ((5, 0), (6, 1)), ((1, 0), (2, 0), (5, 2), (8, 1)), ())
        self.same([max(len(batch(book, s, 6, list)) for s in range(len(book))) for book in (rows2000, rows2001)], [2000, 2001])
        self.refuses(TooMany, 2000, three_wires, rows2000, 6)
        self.refuses(TooMany, 2001, three_wires, rows2001, 6)
        places1999 = (((2, 4), (3, 1), (7, 4), (8, 3)), ((3, 4), (4, 2), (6, 3), (7, 1)), ((3, 3), (5, 3)),
                      ((0, 3), (6, 2)), ((3, 2), (4, 4), (6, 4)))
        places2001 = (((2, 2), (5, 5), (8, 0)), ((3, 6), (4, 2), (6, 6), (7, 6)), (), ((6, 3),),
                      ((0, 3), (1, 1), (3, 2), (5, 0), (8, 5)), ((1, 4), (6, 3)), ((1, 5), (2, 3), (8, 1)))
        laying = three_wires(places1999, 6)
        self.same(laying, plain_three(places1999, 6))
        self.same((len(laying[1]), right(places1999, laying, 6)), (1999, True))
        self.same(len(plain_three(places2001, 6)[1]), 2001)
        self.refuses(TooMany, 2000, three_wires, places2001, 6)

    def test_batches_from_other_states_count(self):
        # The greatest batch is that of state 1, though no batch of a place begins there for the window 2.
        book = (((0, 1),), ((0, 2), (1, 2), (2, 2), (3, 2), (4, 2)), ((0, 0),))
        self.same(three_wires(book, 2), plain_three(book, 2))
        self.same(max(len(batch(book, s, 2, list)) for s in range(3)), 11)

    def test_errors(self):
        self.refuses(BadBook, -1, three_wires, None, 0)
        self.refuses(Stray, 1, three_wires, ((), ()), 0)
        for window in BAD_WINDOWS + (None, 7, 10 ** 30):
            self.refuses(BadWindow, 0, three_wires, BITS, window)
        for thing in ODD:
            with self.assertRaises(ValueError):
                three_wires(thing, 1)
        self.same(right(ENDING, three_wires(ENDING, 6), 6), True)


if __name__ == "__main__":
    unittest.main()

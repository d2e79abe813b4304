"""[6], [6.1], [6.2] and neverfour.least."""

import unittest

from neverfour.errors import BadBook, BadWindow, Stray
from neverfour.least import from_window, least_wires, verdict
from neverfour.likes import least_book, within
from neverfour.rings import first_fork, knots, rays, ring_forks
from neverfour.windows import lasting

from tests.case import Case, Source, nested
from tests.test_likes import near_books
from tests.test_rings import CUT120, WIDEST, C, D, E, layered

BITS = (((0, 0), (1, 0)),)
B = (((0, 1), (3, 2)), ((1, 0), (2, 1)), ())


def plain_least(book, window):
    """The least number by the words of [6], for books whose rays can be listed."""
    if not book[0]:
        return 0
    if all(len(state) < 2 for state in book):
        return 1
    if window is not None:
        return 3 if lasting(book, window) else 2
    if ring_forks(book):
        return None
    told = rays(book)
    at = len(first_fork(book))
    if len(told) > 2 or (len(told) == 2 and told[0][at] == told[1][at]):
        return 3
    return 2


def number(least):
    """The number for comparing: no number counts as greater than every number."""
    return 4 if least is None else least


class Least(Case):

    def test_examples(self):
        self.same(least_wires(((),), None), 0)
        self.same(least_wires(((),), 1), 0)
        self.same(least_wires((((5, 0),),), None), 1)
        self.same(least_wires((((5, 1),), ()), 10 ** 100), 1)
        self.same(least_wires(BITS, 1), 2)
        self.same(least_wires(book=BITS, window=2), 3)
        self.same(least_wires(BITS, None), None)
        self.same(least_wires(C, None), 3)
        self.same(least_wires(D, None), 2)
        self.same(least_wires(E, None), 2)
        self.same([least_wires(B, w) for w in (1, 2, 3, 10 ** 30, None)], [2, 2, 3, 3, None])

    def test_without_answers(self):
        # No ray, one ray, two rays with unlike messages and with one message behind the first fork, three rays.
        self.same(least_wires((((0, 1), (1, 1)), ()), None), 2)
        self.same(least_wires((((0, 1), (1, 2)), (), ((0, 2),)), None), 2)
        self.same(least_wires((((0, 1), (1, 2)), ((0, 1),), ((0, 2),)), None), 2)
        self.same(least_wires((((0, 1), (1, 2)), ((0, 3), (1, 3)), (), ((0, 3),)), None), 3)
        self.same(least_wires((((0, 1), (1, 1), (2, 1)), ((0, 1),)), None), 3)
        # The message behind the first fork is what counts, not one further on.
        book = (((0, 1), (1, 2)), ((0, 3),), ((0, 3), (1, 4)), ((0, 3),), ())
        self.same(rays(book), ((0, 0), (1, 0)))
        self.same(least_wires(book, None), 2)

    def test_any_number_of_rays(self):
        self.same(least_wires(WIDEST, None), 3)
        self.same(least_wires(WIDEST[:7] + ((),), None), 2)
        self.same(verdict(WIDEST), ((2,) * 9, 3))
        self.same(least_wires(CUT120, None), 3)
        # More than 120 cut rows, and only one or two of them rays.
        wide = tuple((m, 1) for m in range(4)), tuple((m, 2) for m in range(5)), tuple((m, 3) for m in range(5))
        self.same(least_wires((wide[0] + ((9, 4),),) + wide[1:] + ((), ((0, 4),)), None), 2)
        two = (wide[0][:3] + ((8, 4), (9, 4)),) + wide[1:] + ((), ((0, 4),))
        self.same(least_wires(two, None), 2)
        same = (wide[0][:3] + ((9, 4),),) + wide[1:] + ((), ((0, 5), (1, 5)), ((0, 5),))
        self.same(least_wires(same, None), 3)

    def test_against_the_plain_way(self):
        source = Source(17)
        told = {}
        for k in range(600):
            book = layered(source) if k % 2 else source.book(8, 3)
            for window in (None, 1, 2, 3, 5, 9):
                try:
                    expected = plain_least(book, window)
                except ValueError:
                    continue
                self.same(least_wires(book, window), expected)
                told[(window is None, expected)] = True
        self.assertEqual(len(told), 9)

    def test_verdict_and_from_window(self):
        source = Source(18)
        greatest = 0
        for _ in range(400):
            book = source.book(8, 3, 4)
            pair = verdict(book)
            self.same(pair, (tuple(least_wires(book, w) for w in range(1, 10)), least_wires(book, None)))
            three = [w for w in range(1, 10) if pair[0][w - 1] == 3]
            self.same(from_window(book), three[0] if three else None)
            self.assertEqual(from_window(book) is None, knots(book) == ())
            self.assertEqual(least_wires(book, 10 ** 40), pair[0][8])
            greatest = max(greatest, from_window(book) or 0)
        self.assertGreater(greatest, 4)
        self.same(from_window(book=BITS), 2)
        self.same(verdict(book=((),)), ((0,) * 9, 0))

    def test_from_window_of_nine(self):
        # A fork that comes back to itself after one message and after eight.
        book = (((0, 1), (1, 0)),) + tuple(((0, (s + 1) % 8),) for s in range(1, 8))
        self.same(from_window(book), 9)
        self.same(verdict(book), ((2,) * 8 + (3,), None))

    def test_the_rows_alone_count(self):
        source = Source(19)
        for _ in range(200):
            one, two = near_books(source)
            for book in (one, two):
                self.same(verdict(book), verdict(least_book(book)))
            for a, b in ((one, two), (two, one)):
                if within(a, b):
                    for window in (1, 2, 3, 4, 9, None):
                        self.assertLessEqual(number(least_wires(a, window)), number(least_wires(b, window)))

    def test_errors_in_their_order(self):
        for function, more in ((least_wires, (0,)), (from_window, ()), (verdict, ())):
            self.refuses(BadBook, -1, function, None, *more)
            self.refuses(BadBook, 0, function, (None,), *more)
            self.refuses(Stray, 1, function, ((), ()), *more)
        for window in (True, False, 0, -1, "1", (), [1], nested(20, 1), -(10 ** 30)):
            for book in (BITS, ((),), C):
                self.refuses(BadWindow, 0, least_wires, book, window)


if __name__ == "__main__":
    unittest.main()

"""[2] and neverfour.likes."""

import unittest

from neverfour.books import is_book, trimmed
from neverfour.errors import BadBook, Stray
from neverfour.likes import alike, least_book, part_row, within

from tests.case import Case, Source, rows_up_to

BITS = (((0, 0), (1, 0)),)
TILL = (((0, 0), (1, 1)), ())
LONG = (((0, 1), (1, 2)), ((0, 0), (1, 3)), (), ())
CHAIN = tuple(((0, s + 1),) if s < 7 else () for s in range(8))
OTHER = tuple(((0, s + 1),) if s < 7 else ((0, 7),) for s in range(8))


def near_books(source):
    """Two books that are often alike or nearly so: the second one is the first one with states put in twice."""
    one = source.book(4, 2, 3)
    many = len(one)
    doubled = [[(m, to + many * source.below(2)) for m, to in state] for state in one + one]
    if source.below(2):
        state = doubled[source.below(2 * many)]
        if state and source.below(2):
            state.pop()
        elif not [m for m, to in state if m == 2]:
            state.append((2, source.below(2 * many)))
    return one, trimmed(tuple(tuple(state) for state in doubled))


class LeastBook(Case):

    def test_examples(self):
        self.same(least_book(LONG), TILL)
        self.same(least_book(book=BITS), BITS)
        self.same(least_book(((),)), ((),))
        self.same(least_book(CHAIN), CHAIN)
        self.same(least_book(OTHER), (((0, 0),),))
        eight = tuple(tuple((m, (3 * s + m) % 8) for m in (0, 1, 2, 3, 4)) for s in range(8))
        self.same(least_book(eight), (tuple((m, 0) for m in (0, 1, 2, 3, 4)),))
        self.same(least_book((((0, 2), (1, 1)), ((5, 1),), ((3, 0),))), (((0, 1), (1, 2)), ((3, 0),), ((5, 2),)))

    def test_it_has_the_same_rows_and_no_fewer_states_do(self):
        source = Source(4)
        for _ in range(150):
            one, two = near_books(source)
            for book in (one, two):
                least = least_book(book)
                self.assertTrue(is_book(least))
                self.same(trimmed(least), least)
                self.same(least_book(least), least)
                self.assertEqual([r for r, s in rows_up_to(book, 6)], [r for r, s in rows_up_to(least, 6)])
                # The states of the least book are all unlike: each pair has a way that just one of both lets.
                ways = []
                for state in range(len(least)):
                    ways.append(frozenset(self.ways(least, state, len(least))))
                self.assertEqual(len(set(ways)), len(least))

    def ways(self, book, state, many):
        level = [((), state)]
        out = []
        for _ in range(many):
            level = [(row + (m,), to) for row, at in level for m, to in book[at]]
            out.extend([row for row, at in level])
        return out


class Compared(Case):

    def test_against_the_plain_way(self):
        source = Source(5)
        likes = 0
        for _ in range(300):
            one, two = near_books(source)
            if source.below(4) == 0:
                two = source.book(3, 2, 3)
            first = [r for r, s in rows_up_to(one, 9)]
            second = [r for r, s in rows_up_to(two, 9)]
            single = sorted(set(first) ^ set(second), key=lambda row: (len(row), row))
            part = single[0] if single else None
            for a, b in ((one, two), (two, one)):
                self.same(part_row(a, b), part)
                self.assertIs(alike(a, b), part is None)
                self.assertEqual(alike(a, b), least_book(a) == least_book(b))
            self.assertIs(within(one, two), set(first) <= set(second))
            self.assertIs(within(two, one), set(second) <= set(first))
            likes += part is None
        self.assertGreater(likes, 20)
        self.assertLess(likes, 280)

    def test_far_rows(self):
        self.same(part_row(CHAIN, OTHER), (0,) * 8)
        self.assertIs(within(CHAIN, OTHER), True)
        self.assertIs(within(OTHER, CHAIN), False)
        # Rings of 7 and 8 states part only where both have gone round together.
        ring7 = tuple(((0, (s + 1) % 7), (1, 0)) if s == 6 else ((0, (s + 1) % 7),) for s in range(7))
        ring8 = tuple(((0, (s + 1) % 8), (1, 0)) if s == 6 else ((0, (s + 1) % 8),) for s in range(8))
        self.same(part_row(ring7, ring8), (0,) * 13 + (1,))

    def test_the_least_row_is_the_first_by_length(self):
        one = (((0, 1), (5, 2)), ((1, 1),), ())
        two = (((0, 1), (5, 2)), ((1, 3),), ((9, 2),), ())
        self.same(part_row(one, two), (5, 9))
        self.same(part_row(((),), BITS), (0,))
        self.same(part_row(one=(((1, 0), (2, 0)),), two=(((0, 0), (2, 0)),)), (0,))

    def test_keywords(self):
        self.assertIs(alike(one=LONG, two=TILL), True)
        self.assertIs(within(one=TILL, two=BITS), True)

    def test_errors(self):
        for function in (alike, part_row, within):
            self.refuses(BadBook, -1, function, None, ((), ()))
            self.refuses(Stray, 1, function, ((), ()), None)
            self.refuses(BadBook, -1, function, BITS, [])
            self.refuses(BadBook, 0, function, BITS, (((0, 1),),))
            self.refuses(Stray, 1, function, BITS, ((), ()))
        self.refuses(BadBook, -1, least_book, ())
        self.refuses(Stray, 1, least_book, ((), ()))


if __name__ == "__main__":
    unittest.main()

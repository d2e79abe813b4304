"""[2.1] and neverfour.joining."""

import unittest

from neverfour.books import is_book
from neverfour.errors import BadBook, BadState, Clash, NoMessage, Refused, Stray, TooMany, Wide
from neverfour.joining import behind, beside, less
from neverfour.likes import least_book

from tests.case import NO_SMALL_NUMBER, Case, Source, nested, rows_up_to

BITS = (((0, 0), (1, 0)),)
TILL = (((0, 0), (1, 1)), ())


def chain(many, message):
    """A book that lets so many messages be said, all the same."""
    return tuple(((message, s + 1),) if s < many else () for s in range(many + 1))


def rows(book, many):
    return {row for row, state in rows_up_to(book, many)}


def rows_behind(one, two, many):
    """All rows of at most so many messages that behind is to have."""
    out = rows(one, many)
    for row, state in rows_up_to(one, many):
        if not one[state]:
            out |= {row + other for other in rows(two, many - len(row))}
    return out


class Behind(Case):

    def test_against_the_plain_way(self):
        source = Source(6)
        for _ in range(150):
            one, two = source.book(4, 2, 4), source.book(3, 2, 4)
            try:
                joined = behind(one, two)
            except TooMany as refused:
                self.fail(refused.what)
            self.assertEqual(rows(joined, 6), rows_behind(one, two, 6))
            self.same(least_book(joined), joined)

    def test_edges(self):
        self.same(behind(((),), TILL), TILL)
        self.same(behind(TILL, ((),)), TILL)
        self.same(behind(one=BITS, two=TILL), BITS)
        self.same(behind(((),), ((),)), ((),))
        self.same(behind((((3, 1), (4, 1)), ()), BITS), (((3, 1), (4, 1)), ((0, 1), (1, 1))))
        # The book behind may end where the first one ended, and goes round in itself.
        self.same(behind((((0, 1), (1, 2)), (), ()), (((0, 0),),)), (((0, 1), (1, 1)), ((0, 1),)))

    def test_bounds(self):
        self.same(behind(chain(3, 0), chain(4, 1)), tuple(((0 if s < 3 else 1, s + 1),) if s < 7 else () for s in range(8)))
        self.refuses(TooMany, 9, behind, chain(4, 0), chain(4, 1))
        self.refuses(TooMany, 15, behind, chain(7, 0), chain(7, 1))
        # What counts are the states of the least book.
        self.same(behind(chain(7, 0)[:7] + (((0, 7),),), chain(7, 1)), (((0, 0),),))

    def test_errors(self):
        self.refuses(BadBook, -1, behind, None, None)
        self.refuses(Stray, 1, behind, ((), ()), None)
        self.refuses(BadBook, -1, behind, chain(7, 0), [])
        self.refuses(Stray, 1, behind, chain(7, 0), ((), ()))


class Beside(Case):

    def test_against_the_plain_way(self):
        source = Source(7)
        done = 0
        while done < 100:
            one, two = source.book(3, 2, 4), source.book(4, 2, 8)
            common = {m for m, to in one[0]} & {m for m, to in two[0]}
            if common:
                self.refuses(Clash, min(common), beside, one, two)
                continue
            done += 1
            joined = beside(one, two)
            self.assertTrue(is_book(joined))
            self.assertEqual(rows(joined, 6), rows(one, 6) | rows(two, 6))
            self.same(least_book(joined), joined)

    def test_edges(self):
        self.same(beside(((),), ((),)), ((),))
        self.same(beside(TILL, ((),)), TILL)
        self.same(beside(one=((),), two=TILL), TILL)
        # Whoever comes back to the first state of one book cannot begin the other one any more.
        self.same(beside(BITS, (((2, 0),),)), (((0, 1), (1, 1), (2, 2)), ((0, 1), (1, 1)), ((2, 2),)))

    def test_bounds(self):
        five = beside((((0, 0), (1, 0), (2, 0)),), (((3, 0), (4, 0)),))
        self.assertEqual(len(five[0]), 5)
        self.refuses(Wide, 0, beside, (((0, 0), (1, 0), (2, 0)),), (((3, 0), (4, 0), (5, 0)),))
        ten = tuple((m, 0) for m in range(5)), tuple((m, 0) for m in range(50, 55))
        self.refuses(Wide, 0, beside, (ten[0],), (ten[1],))
        self.assertEqual(len(beside(chain(4, 0), chain(3, 1))), 7)
        self.assertEqual(len(beside(chain(4, 0), chain(4, 1))), 8)
        self.refuses(TooMany, 9, beside, chain(5, 0), chain(4, 1))
        self.refuses(TooMany, 14, beside, chain(7, 0), chain(7, 1))
        self.assertEqual(len(beside(chain(6, 0), chain(1, 1)[:1] + (((1, 1),),))), 8)
        self.refuses(TooMany, 9, beside, chain(7, 0), chain(1, 1)[:1] + (((1, 1),),))
        # Nine states and six messages: the number of states is told.
        one = (tuple((m, 1) for m in range(5)),) + tuple(((0, s + 1),) if s < 7 else () for s in range(1, 8))
        self.refuses(TooMany, 9, beside, one, chain(1, 9)[:1] + (((9, 1),),))
        self.refuses(Wide, 0, beside, one, chain(1, 9))

    def test_clash_comes_first(self):
        one = tuple((m, 1) for m in range(1, 6))
        self.refuses(Clash, 5, beside, (one,) + chain(7, 0)[1:], (tuple((m, 0) for m in range(5, 10)),))
        self.refuses(Clash, 2, beside, (((1, 0), (2, 0), (3, 0)),), (((2, 0), (3, 0)),))

    def test_errors(self):
        self.refuses(BadBook, -1, beside, None, None)
        self.refuses(Stray, 1, beside, ((), ()), None)
        self.refuses(BadBook, 0, beside, BITS, (None,))
        self.refuses(Clash, 0, beside, BITS, BITS)


class Less(Case):

    def test_against_the_plain_way(self):
        source = Source(8)
        for _ in range(150):
            book = source.book(5, 3)
            state = source.below(len(book))
            if not book[state]:
                continue
            message = book[state][source.below(len(book[state]))][0]
            smaller = less(book, state, message)
            expected = {()}
            level = [((), 0)]
            for _ in range(6):
                level = [(r + (m,), to) for r, at in level for m, to in book[at] if (at, m) != (state, message)]
                expected |= {row for row, at in level}
            self.assertEqual(rows(smaller, 6), expected)
            self.same(least_book(smaller), smaller)

    def test_edges(self):
        self.same(less(book=TILL, state=0, message=0), (((1, 1),), ()))
        self.same(less((((0, 0),),), 0, 0), ((),))
        self.same(less((((9, 1),), ((9, 1),)), 1, 9), (((9, 1),), ()))

    def test_errors_in_their_order(self):
        self.refuses(BadBook, -1, less, None, None, None)
        for state in NO_SMALL_NUMBER + (2,):
            self.refuses(BadState, state, less, TILL, state, 9)
        for message in (None, True, False, 2, -1, 100, "0", (), (0,), [], [0], 10 ** 40, nested(20, 0)):
            self.refuses(NoMessage, message, less, TILL, 0, message)
        self.refuses(NoMessage, 0, less, TILL, 1, 0)
        self.assertTrue(issubclass(NoMessage, Refused))


if __name__ == "__main__":
    unittest.main()

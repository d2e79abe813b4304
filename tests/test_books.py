"""[1], [1.1], [1.2], [1.3] and neverfour.books."""

import unittest

from neverfour.books import ends_of, is_book, is_row, made_book, made_row, rows_from, state_at, trimmed, way_to
from neverfour.errors import BadBook, BadMany, BadRow, BadState, Stray, TooMany

from tests.case import NO_SMALL_NUMBER, ODD, Case, Source, nested, rows_up_to

BITS = (((0, 0), (1, 0)),)
TILL = (((0, 0), (1, 1)), ())
FULL = (((0, 1), (24, 2), (50, 3), (98, 4), (99, 5)), ((3, 6),), ((3, 6),), ((3, 7),), (), ((0, 0),), (), ())
R5000 = (
    ((0, 3), (1, 3), (2, 1), (3, 2)), ((0, 3), (1, 2), (2, 3)),
    ((0, 1), (1, 1), (2, 3), (3, 1), (4, 1)), ((0, 2), (1, 1), (2, 2), (3, 3)),
)
R5001 = (
    ((0, 2), (1, 2), (2, 1), (3, 1)), ((0, 0), (1, 0), (2, 2), (3, 1), (4, 0)), ((0, 0), (1, 0), (2, 2)),
)


class MadeBook(Case):

    def test_books(self):
        for book in (BITS, TILL, FULL, ((),), (((99, 0),),)):
            self.same(made_book(book), book)
            self.same(made_book(thing=book), book)
            self.assertIs(is_book(book), True)
            self.assertIs(is_book(thing=book), True)

    def test_most_states_and_messages(self):
        row = tuple((m, 7) for m in range(5))
        book = tuple((((0, s + 1),) if s < 7 else row) for s in range(8))
        self.same(made_book(book), book)
        self.refuses(BadBook, -1, made_book, book + ((),))
        self.refuses(BadBook, 7, made_book, book[:7] + (row + ((5, 7),),))
        wide = tuple(tuple((m, (s + m) % 8) for m in range(95, 100)) for s in range(8))
        self.same(made_book(wide), wide)

    def test_form(self):
        for thing in (None, True, False, 0, "", [], [()], (), 10 ** 50, ((),) * 9, nested(20, 0)[0]):
            if thing != ((),):
                self.refuses(BadBook, -1, made_book, thing)
        # Nine items are too many, whatever they are.
        self.refuses(BadBook, -1, made_book, (None,) * 9)

    def test_states(self):
        bad = (
            None, 0, True, "", [], [(0, 0)], ((0, 0),) + (None,), ((0,),), ((0, 0, 0),), ([0, 0],), ((True, 0),),
            ((False, 0),), ((0, True),), ((0, False),), ((0, None),), ((None, 0),), ((-1, 0),), ((100, 0),),
            ((0, -1),), ((0, 2),), ((0, 10 ** 40),), ((10 ** 40, 0),), ((0, 0), (0, 0)), ((1, 0), (0, 0)),
            (("0", 0),), ((0, "0"),), (((), 0),), ((0, []),), "ab", ("ab",), tuple((m, 0) for m in range(6)),
            (nested(18, 0),), ((nested(17, 0), 0),),
        )
        for state in bad:
            self.refuses(BadBook, 0, made_book, (state, ()))
            self.refuses(BadBook, 1, made_book, (((0, 1),), state))
            self.refuses(BadBook, 0, made_book, (state, None))
            self.assertIs(is_book((((0, 1),), state)), False)
            self.refuses(BadBook, 1, trimmed, (((0, 1),), state))
        self.refuses(BadBook, 0, made_book, (((0, 1),),))
        # The form of all states comes before strays.
        self.refuses(BadBook, 2, made_book, ((), (), None))

    def test_strays(self):
        self.refuses(Stray, 1, made_book, (((0, 0),), ()))
        self.refuses(Stray, 1, made_book, (((0, 2),), ((0, 2),), ()))
        self.refuses(Stray, 2, made_book, (((0, 1),), (), ((0, 3),), ((0, 2),)))
        self.assertIs(is_book((((0, 0),), ())), False)

    def test_is_book_never_raises(self):
        for thing in ODD:
            if thing not in ((((0, 0),),), ((),)):
                self.assertIs(is_book(thing), False, thing)
                with self.assertRaises((BadBook, Stray)):
                    made_book(thing)


class Trimmed(Case):

    def test_numbers_by_meeting(self):
        self.same(trimmed((((5, 2),), ((0, 0),), ((3, 2), (4, 0)))), (((5, 1),), ((3, 1), (4, 0))))
        self.same(trimmed((((0, 3), (1, 1)), (), ((0, 0),), ((2, 1), (7, 3)))), (((0, 1), (1, 2)), ((2, 2), (7, 1)), ()))
        self.same(trimmed((((1, 1), (2, 2)), ((0, 3),), ((0, 4),), (), ())), (((1, 1), (2, 2)), ((0, 3),), ((0, 4),), (), ()))
        self.same(trimmed(thing=((), (), ())), ((),))
        self.same(trimmed(BITS), BITS)

    def test_errors(self):
        for thing in (None, [], (), ((),) * 9):
            self.refuses(BadBook, -1, trimmed, thing)
        self.refuses(BadBook, 1, trimmed, ((), ((0, 2),)))

    def test_rows_stay(self):
        source = Source(1)
        for _ in range(100):
            states = tuple(
                tuple((m, source.below(6)) for m in range(4) if source.below(3) == 0) for _ in range(6)
            )
            book = trimmed(states)
            self.same(made_book(book), book)
            self.same(trimmed(book), book)
            self.assertEqual([r for r, s in rows_up_to(book, 5)], [r for r, s in rows_up_to(states, 5)])


class Rows(Case):

    def test_rows(self):
        for row in ((), (0,), (0, 0, 1), (0,) * 19999 + (1,), (0,) * 20000):
            self.same(made_row(TILL, row), row)
            self.same(made_row(book=TILL, thing=row), row)
            self.assertIs(is_row(TILL, row), True)
            self.assertIs(is_row(book=TILL, thing=row), True)
            self.assertEqual(state_at(book=TILL, row=row), 1 if 1 in row else 0)

    def test_form(self):
        for thing in (None, True, 0, "", "01", [], [0], (0,) * 20001, (None,) * 20001):
            self.refuses(BadRow, -1, made_row, TILL, thing)
            self.refuses(BadRow, -1, state_at, TILL, thing)
            self.assertIs(is_row(TILL, thing), False)

    def test_messages(self):
        for wrong in (None, True, False, 2, -1, 100, 10 ** 60, "", "0", (), (0,), [], [0], nested(19, 0)):
            for book in (TILL, BITS):
                self.refuses(BadRow, 1, made_row, book, (0, wrong, 0))
                self.refuses(BadRow, 0, state_at, book, (wrong, wrong))
                self.assertIs(is_row(book, (wrong,)), False)
        self.refuses(BadRow, 2, made_row, TILL, (0, 1, 0))
        self.refuses(BadRow, 19999, made_row, TILL, (0,) * 19998 + (1, 1))
        self.refuses(BadRow, 1, made_row, FULL, (24, 0))
        self.refuses(BadRow, 0, made_row, ((),), (0,))

    def test_the_book_comes_first(self):
        self.refuses(BadBook, -1, made_row, None, None)
        self.refuses(BadBook, -1, is_row, [BITS], ())
        self.refuses(Stray, 1, is_row, ((), ()), None)
        self.refuses(Stray, 1, state_at, ((), ()), None)

    def test_is_row_never_raises(self):
        for thing in ODD:
            if thing != ():
                self.assertIs(is_row(BITS, thing), False, thing)

    def test_state_at(self):
        self.assertEqual(state_at(FULL, (98,)), 4)
        self.assertEqual(state_at(FULL, (99, 0, 50, 3)), 7)
        self.assertEqual(state_at(FULL, ()), 0)


class RowsFrom(Case):

    def test_against_the_plain_way(self):
        source = Source(2)
        for _ in range(60):
            book = source.book(4, 3)
            many = source.below(5)
            rows = rows_from(book, 0, many)
            self.same(rows, tuple(row for row, state in rows_up_to(book, many)))
            self.assertEqual(list(rows), sorted(rows, key=lambda row: (len(row), row)))

    def test_from_other_states(self):
        self.same(rows_from(FULL, 1, 8), ((), (3,)))
        self.same(rows_from(book=FULL, state=5, many=2), ((), (0,), (0, 0), (0, 24), (0, 50), (0, 98), (0, 99)))
        self.same(rows_from(TILL, 1, 0), ((),))
        self.same(rows_from(BITS, 0, 0), ((),))
        self.same(rows_from((((7, 0),),), 0, 8)[-1], (7,) * 8)

    def test_bounds(self):
        self.assertEqual(len(rows_from(BITS, 0, 8)), 511)
        self.assertEqual(len(rows_from(R5000, 0, 6)), 5000)
        self.refuses(TooMany, 5000, rows_from, R5001, 0, 6)
        self.refuses(TooMany, 5000, rows_from, (tuple((m, 0) for m in range(5)),), 0, 8)
        self.assertEqual(len(rows_from((tuple((m, 0) for m in range(5)),), 0, 5)), 3906)

    def test_errors_in_their_order(self):
        self.refuses(BadBook, -1, rows_from, None, None, None)
        self.refuses(Stray, 1, rows_from, ((), ()), 5, 9)
        for state in NO_SMALL_NUMBER:
            self.refuses(BadState, state, rows_from, BITS, state, 9)
        self.refuses(BadState, 2, rows_from, TILL, 2, 1)
        for many in (None, True, False, -1, 9, "1", (), [1], 10 ** 30, nested(20, 1)):
            self.refuses(BadMany, 0, rows_from, R5001, 0, many)


class WaysAndEnds(Case):

    def test_way_to(self):
        source = Source(3)
        for _ in range(80):
            book = source.book(6, 3)
            first = {}
            for row, state in rows_up_to(book, len(book)):
                first.setdefault(state, row)
            for state in range(len(book)):
                self.same(way_to(book, state), first[state])
        self.same(way_to(book=TILL, state=1), (1,))
        self.same(way_to(FULL, 6), (0, 3))
        self.same(way_to(TILL, 0), ())

    def test_way_to_errors(self):
        self.refuses(BadBook, -1, way_to, [], [])
        for state in NO_SMALL_NUMBER + (2,):
            self.refuses(BadState, state, way_to, TILL, state)

    def test_ends_of(self):
        self.same(ends_of(FULL), (4, 6, 7))
        self.same(ends_of(book=BITS), ())
        self.same(ends_of(((),)), (0,))
        self.refuses(BadBook, 0, ends_of, (None,))
        self.refuses(Stray, 1, ends_of, ((), ()))


if __name__ == "__main__":
    unittest.main()

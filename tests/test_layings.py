"""[3] to [3.4] and neverfour.layings."""

import unittest

from neverfour.errors import (
    BadBook, BadLaying, BadLots, BadMany, BadOrder, BadRow, BadWire, Stray,
)
from neverfour.layings import (
    exchanged, is_laying, lot_of, made_laying, met, nought, place_at, seen, simple, times, wider,
)

from tests.case import ODD, Case, Source, nested

BITS = (((0, 0), (1, 0)),)
TILL = (((0, 0), (1, 1)), ())
TURNS = (2, ((0, ((2, (1, 0)), (1, (0, 2)))), (1, ()), (0, ((0, (0, 1)), (1, (2, 0))))))
ONE = (1, ((0, ((0, (1,)), (0, (2,)))),))
RING = (1, tuple((0, (((p + 1) % 2000, (p,)), ((p + 1) % 2000, (0,)))) for p in range(2000)))
GREAT = 10 ** 1500


class MadeLaying(Case):

    def good(self, book, laying):
        self.same(made_laying(book, laying), laying)
        self.same(made_laying(book=book, thing=laying), laying)
        self.assertIs(is_laying(book, laying), True)
        self.assertIs(is_laying(book=book, thing=laying), True)

    def bad(self, what, book, thing):
        self.refuses(BadLaying, what, made_laying, book, thing)
        self.refuses(BadLaying, what, met, book, thing)
        self.assertIs(is_laying(book, thing), False)

    def test_layings(self):
        self.good(TILL, TURNS)
        self.good(BITS, ONE)
        self.good(BITS, RING)
        self.good(((),), (0, ((0, ()),)))
        self.good(((),), (6, ((0, ()),) * 2000))
        self.good(BITS, (0, ((0, ((0, ()), (0, ()))),)))
        self.good(BITS, (6, ((0, ((0, (0,) * 6), (0, (GREAT,) * 6))),)))
        source = Source(9)
        for _ in range(50):
            book = source.book(6, 5)
            self.good(book, source.laying(book, source.below(7), 12, 3))

    def test_form_of_the_whole(self):
        place = (0, ((0, (1,)), (0, (2,))))
        for thing in (
            None, True, 0, "", "ab", [], (), (1,), [1, (place,)], (1, (place,), 0), (1, [place]), (1, None), (1, ()),
            (True, (place,)), (False, (place,)), (-1, (place,)), (7, (place,)), ("1", (place,)), (None, (place,)),
            (10 ** 30, (place,)), (1, (place,) * 2001), (1, (None,) * 2001), ((1,), (place,)), nested(20, 0),
        ):
            self.bad(-1, BITS, thing)

    def test_form_of_a_place(self):
        good = (0, ((1, (1,)), (0, (2,))))
        moves = good[1]
        bad = (
            None, True, 0, "", "ab", (), (0,), [0, moves], (0, moves, 0), (True, moves), (False, moves), (1, moves),
            (-1, moves), (None, moves), ("0", moves), ([], moves), (10 ** 40, moves),
            (0, None), (0, ()), (0, moves[:1]), (0, list(moves)), (0, moves + moves[:1]), (0, (None, moves[1])),
            (0, ((1, (1,), 0), moves[1])), (0, ([1, (1,)], moves[1])), (0, ((1,), moves[1])),
            (0, ((True, (1,)), moves[1])), (0, ((False, (1,)), moves[1])), (0, ((2, (1,)), moves[1])),
            (0, ((-1, (1,)), moves[1])), (0, ((None, (1,)), moves[1])), (0, (("0", (1,)), moves[1])),
            (0, (((), (1,)), moves[1])), (0, ((10 ** 40, (1,)), moves[1])),
            (0, ((0, ()), moves[1])), (0, ((0, (1, 1)), moves[1])), (0, ((0, [1]), moves[1])),
            (0, ((0, (-1,)), moves[1])), (0, ((0, (True,)), moves[1])), (0, ((0, (None,)), moves[1])),
            (0, ((0, ("1",)), moves[1])), (0, ((0, ((1,),)), moves[1])), (0, ((0, 1), moves[1])),
            (0, ((0, None), moves[1])), (0, ((0, (nested(15, 0),)), moves[1])),
        )
        for place in bad:
            self.bad(0, BITS, (1, (place, good)))
            self.bad(0, BITS, (1, (place, None)))
        # A place that nobody goes to is looked at, too, and whether a place goes with a state is looked at first.
        alone = (0, ((0, (1,)), (0, (2,))))
        for place in bad:
            self.bad(1, BITS, (1, (alone, place)))
        for state in (-1, 1, 2, -2, True, False, None, "0", (0,), 10 ** 40, -(10 ** 40)):
            self.bad(1, BITS, (1, (alone, (state, alone[1]))))
            self.bad(2, TILL, (0, ((0, ((0, ()), (1, ()))), (1, ()), (state if state != 1 else 3, ()))))

    def test_goes_with(self):
        # Place 2 goes with state 1, whatever its moves are; so place 0 is good and place 2 is the first bad one.
        start = (0, ((1, (1,)), (2, (1,))))
        self.good(TILL, (1, (start, (0, ((0, (1,)), (2, (1,)))), (1, ()))))
        for moves in (None, [], (0,), 7, "x"):
            self.bad(2, TILL, (1, (start, (0, ((0, (1,)), (2, (1,)))), (1, moves))))
        for place in ((1,), (1, (), ()), [1, ()], (True, ()), (0, ()), (None, ()), 1, None):
            self.bad(0, TILL, (1, (start, (0, ((0, (1,)), (2, (1,)))), place)))
        # Place 0 goes with state 0.
        self.bad(0, TILL, (1, ((1, ()), (0, ((1, (1,)), (0, (1,)))))))
        self.bad(0, (((0, 1),), ((0, 0),)), (1, ((1, ((1, (1,)),)), (0, ((0, (1,)),)))))
        # A message leads to a place of the right state.
        self.bad(0, TILL, (0, ((0, ((0, ()), (0, ()))), (1, ()))))
        self.bad(1, TILL, (0, ((0, ((1, ()), (2, ()))), (0, ((2, ()), (2, ()))), (1, ()))))
        # The first bad place is told.
        self.bad(1999, BITS, (1, RING[1][:1999] + ((0, None),)))

    def test_the_number_of_places(self):
        self.good(BITS, RING)
        self.bad(-1, BITS, (1, RING[1] + RING[1][:1]))

    def test_the_book_comes_first(self):
        for function in (made_laying, is_laying, met, seen, nought):
            self.refuses(BadBook, -1, function, None, None)
            self.refuses(Stray, 1, function, ((), ()), None)

    def test_is_laying_never_raises(self):
        for thing in ODD:
            self.assertIs(is_laying(BITS, thing), False, thing)
            self.assertIs(is_laying(BITS, (1, thing)), False, thing)
            self.assertIs(is_laying(BITS, (1, (thing,))), False, thing)
            self.assertIs(is_laying(BITS, (1, ((0, thing),))), False, thing)
            if thing != ():
                self.assertIs(is_laying(((),), (0, ((0, thing),))), False, thing)


class Along(Case):

    def test_against_the_plain_way(self):
        source = Source(10)
        for _ in range(100):
            book = source.book(4, 3)
            laying = source.laying(book, source.below(4), 7, 5)
            state, place, row, total = 0, 0, (), (0,) * laying[0]
            for _ in range(12):
                self.same(place_at(book, laying, row), place)
                self.same(lot_of(book, laying, row), total)
                if not book[state]:
                    break
                k = source.below(len(book[state]))
                row += (book[state][k][0],)
                state = book[state][k][1]
                place, lot = laying[1][place][1][k]
                total = tuple(a + b for a, b in zip(total, lot))

    def test_long_rows(self):
        self.assertEqual(place_at(BITS, RING, (0, 1) * 10000), 0)
        self.assertEqual(place_at(BITS, RING, (1,) * 19999), 1999)
        self.same(lot_of(BITS, RING, (0, 1) * 10000), (10 * sum(range(0, 2000, 2)),))
        great = (2, ((0, ((0, (GREAT, 1)), (0, (1, GREAT)))),))
        self.same(lot_of(BITS, great, (0,) * 10000 + (1,) * 10000), ((GREAT + 1) * 10000, (GREAT + 1) * 10000))
        self.same(lot_of(book=TILL, laying=TURNS, row=(0, 0, 0, 1)), (4, 1))
        self.same(lot_of(TILL, (0, ((0, ((0, ()), (1, ()))), (1, ()))), (0, 0, 1)), ())
        self.assertEqual(place_at(book=TILL, laying=TURNS, row=()), 0)

    def test_errors_in_their_order(self):
        for function in (place_at, lot_of):
            self.refuses(BadBook, -1, function, None, None, None)
            self.refuses(BadLaying, -1, function, TILL, None, None)
            self.refuses(BadLaying, 0, function, TILL, (1, (None,)), None)
            for row in (None, [], (0,) * 20001, 0, ""):
                self.refuses(BadRow, -1, function, TILL, TURNS, row)
            self.refuses(BadRow, 2, function, TILL, TURNS, (0, 1, 0))
            self.refuses(BadRow, 0, function, BITS, ONE, (True,))


class Met(Case):

    def test_against_the_plain_way(self):
        source = Source(11)
        for _ in range(60):
            book = source.book(3, 2)
            laying = source.laying(book, 1, 5, 1)
            first = {}
            level = [((), 0)]
            for _ in range(len(laying[1]) + 1):
                for row, place in level:
                    first.setdefault(place, row)
                level = [
                    (row + (pair[0],), move[0])
                    for row, place in level
                    for pair, move in zip(book[laying[1][place][0]], laying[1][place][1])
                ][:3000]
            pairs = met(book, laying)
            self.same(pairs, tuple(sorted([(r, p) for p, r in first.items()], key=lambda pair: (len(pair[0]), pair[0]))))
            self.check_seen(book, laying, pairs)
            self.check_nought(book, laying, pairs)

    def check_seen(self, book, laying, pairs):
        small = seen(book, laying)
        number = {place: k for k, (row, place) in enumerate(pairs)}
        self.assertEqual(len(small[1]), len(pairs))
        for row, place in pairs:
            state, moves = laying[1][place]
            self.same(small[1][number[place]], (state, tuple((number[to], lot) for to, lot in moves)))
        self.same(made_laying(book, small), small)
        self.same(seen(book, small), small)
        for row, place in pairs:
            self.same(lot_of(book, small, row), lot_of(book, laying, row))

    def check_nought(self, book, laying, pairs):
        found = None
        for row, place in pairs:
            state, moves = laying[1][place]
            for pair, move in zip(book[state], moves):
                if found is None and sum(move[1]) == 0:
                    found = (place, pair[0])
        self.same(nought(book, laying), found)

    def test_examples(self):
        self.same(met(book=TILL, laying=TURNS), (((), 0), ((0,), 2), ((1,), 1)))
        rows = met(BITS, RING)
        self.assertEqual(len(rows), 2000)
        self.same(rows[1999], ((0,) * 1999, 1999))
        self.same(seen(book=BITS, laying=RING), RING)
        # Places to which no row comes are left out.
        loose = (1, ONE[1] + ((0, ((0, (0,)), (1, (0,)))), (0, ((2, (0,)), (1, (0,))))))
        self.same(met(BITS, loose), (((), 0),))
        self.same(seen(BITS, loose), ONE)
        self.same(nought(BITS, loose), None)

    def test_nought(self):
        self.same(nought(book=BITS, laying=RING), (0, 0))
        self.same(nought(TILL, TURNS), None)
        self.same(nought(((),), (0, ((0, ()),))), None)
        self.same(nought((((5, 0),),), (0, ((0, ((0, ()),)),))), (0, 5))
        self.same(nought((((5, 0),),), (2, ((0, ((0, (0, 0)),)),))), (0, 5))
        self.same(nought((((5, 0),),), (2, ((0, ((0, (0, GREAT)),)),))), None)
        # The places are taken in the order of met, not of their numbers.
        turned = (1, ((0, ((2, (1,)), (1, (1,)))), (0, ((0, (0,)), (0, (1,)))), (0, ((0, (1,)), (0, (0,))))))
        self.same(nought(BITS, turned), (2, 1))


class Changed(Case):

    def test_simple(self):
        self.same(simple(BITS, 2, (((1, 0), (0, 1)),)), (2, ((0, ((0, (1, 0)), (0, (0, 1)))),)))
        self.same(simple(book=TILL, wires=0, lots=(((), ()), ())), (0, ((0, ((0, ()), (1, ()))), (1, ()))))
        self.same(simple(((),), 6, ((),)), (6, ((0, ()),)))
        self.same(
            simple((((3, 1),), ((4, 0),)), 1, (((GREAT,),), ((0,),))), (1, ((0, ((1, (GREAT,)),)), (1, ((0, (0,)),))))
        )

    def test_simple_errors(self):
        self.refuses(BadBook, -1, simple, None, None, None)
        for wires in (None, True, False, -1, 7, "2", (), [2], 10 ** 30):
            self.refuses(BadMany, 0, simple, BITS, wires, None)
        good = ((1, 0), (0, 1))
        for lots in (None, True, 0, "", "x", [], [good], (), (good, good), ((),) * 3):
            self.refuses(BadLots, -1, simple, BITS, 2, lots)
        bad = (
            None, 0, [], list(good), (), good[:1], good + good, ((1, 0), None), ((1, 0), [0, 1]), ((1, 0), (0,)),
            ((1, 0), (0, 1, 2)), ((1, 0), (0, True)), ((1, 0), (0, -1)), ((1, 0), (0, "1")), ((1, 0), ()), "ab",
            (nested(18, 0), (1, 0)),
        )
        for lots in bad:
            self.refuses(BadLots, 0, simple, BITS, 2, (lots,))
            self.refuses(BadLots, 0, simple, TILL, 2, (lots, None))
        self.refuses(BadLots, 1, simple, TILL, 2, (good, good))
        self.refuses(BadLots, 1, simple, TILL, 2, (good, None))

    def test_times(self):
        laying = (2, ((0, ((0, (3, 0)), (0, (0, GREAT)))),))
        self.same(times(book=BITS, laying=laying, many=1), laying)
        self.same(times(BITS, laying, 1000000), (2, ((0, ((0, (3000000, 0)), (0, (0, 1000000 * GREAT)))),)))
        self.same(times(((),), (0, ((0, ()),)), 5), (0, ((0, ()),)))
        self.refuses(BadBook, -1, times, None, None, None)
        self.refuses(BadLaying, -1, times, BITS, None, None)
        for many in (None, True, False, 0, -1, 1000001, "1", (1,), [], 10 ** 30):
            self.refuses(BadMany, 0, times, BITS, laying, many)

    def test_exchanged(self):
        laying = (3, ((0, ((0, (7, 8, 9)),)),))
        book = (((0, 0),),)
        self.same(exchanged(book, laying, (1, 2, 0)), (3, ((0, ((0, (8, 9, 7)),)),)))
        self.same(exchanged(book=book, laying=laying, order=(0, 1, 2)), laying)
        self.same(exchanged(((),), (0, ((0, ()),)), ()), (0, ((0, ()),)))
        self.refuses(BadLaying, -1, exchanged, book, None, None)
        for order in (
            None, True, "012", [], [0, 1, 2], (), (0, 1), (0, 1, 2, 2), (0, 1, 3), (0, 0, 1), (0, 1, True),
            (False, 1, 2), (0, 1, "2"), (0, 1, None), (0, (), 1), (0, 1, -1), (0, [], 1), (0, 1, 10 ** 30),
        ):
            self.refuses(BadOrder, 0, exchanged, book, laying, order)
        self.refuses(BadOrder, 0, exchanged, ((),), (0, ((0, ()),)), (0,))

    def test_wider(self):
        laying = (2, ((0, ((0, (1, 0)), (0, (0, 5)))),))
        self.same(wider(BITS, laying, 0), (3, ((0, ((0, (1, 0, 1)), (0, (0, 5, 0)))),)))
        self.same(wider(book=BITS, laying=laying, wire=1), (3, ((0, ((0, (1, 0, 0)), (0, (0, 5, 5)))),)))
        five = (5, ((0, ((0, (1, 2, 3, 4, 5)),)),))
        six = (6, ((0, ((0, (1, 2, 3, 4, 5, 3)),)),))
        self.same(wider((((0, 0),),), five, 2), six)
        self.refuses(BadLaying, -1, wider, BITS, None, None)
        for wire in (None, True, False, -1, 2, "0", (), [0], 10 ** 30, nested(20, 0)):
            self.refuses(BadWire, wire, wider, BITS, laying, wire)
        self.refuses(BadWire, 0, wider, ((),), (0, ((0, ()),)), 0)
        self.refuses(BadWire, 6, wider, (((0, 0),),), six, 6)
        self.refuses(BadMany, 0, wider, (((0, 0),),), six, 5)


if __name__ == "__main__":
    unittest.main()

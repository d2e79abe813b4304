"""[13], [13.1], [13.2] and neverfour.costs."""

import time
import unittest
from fractions import Fraction

from neverfour.costs import dearest, pace, pulses_of
from neverfour.errors import BadBook, BadLaying, BadMany, BadRow, Refused, Stray
from neverfour.layings import lot_of, simple, times

from tests.case import ENDING, NO_SMALL_NUMBER, ODD, Case, Source, rows_up_to, turns
from tests.test_readers import TURN, ZERO, drawn_row
from tests.test_worlds import BITS, FULL, ONE, TWO

FIVE = (tuple((m, 0) for m in range(5)),)
NONE = (0, ((0, ()),))


def arrows(book, laying):
    """The places that rows come to, each with the pairs of a place behind it and the pulses on the way there."""
    order, out = [0], {}
    for place in order:
        out[place] = [(to, sum(lot)) for to, lot in laying[1][place][1]]
        order.extend(to for to, _ in out[place] if to not in order)
    return out


def plain_pace(book, laying):
    """The greatest pace of the rings that meet no place twice; each is found from its least place on."""
    ahead = arrows(book, laying)
    best = None

    def go(start, place, pulses, way):
        nonlocal best
        for to, more in ahead[place]:
            if to == start:
                found = Fraction(pulses + more, len(way))
                best = found if best is None else max(best, found)
            elif to > start and to not in way:
                go(start, to, pulses + more, way + [to])

    for start in ahead:
        go(start, start, 0, [start])
    return None if best is None else (best.numerator, best.denominator)


def level_pace(book, laying):
    """The same by the dearest ways of each number of messages from anywhere to each place."""
    ahead = arrows(book, laying)
    levels = [{place: 0 for place in ahead}]
    for _ in ahead:
        level = {}
        for place, pulses in levels[-1].items():
            for to, more in ahead[place]:
                level[to] = max(level.get(to, 0), pulses + more)
        levels.append(level)
    best = None
    for place, pulses in levels[-1].items():
        found = min(Fraction(pulses - level[place], len(ahead) - k)
                    for k, level in enumerate(levels[:-1]) if place in level)
        best = found if best is None else max(best, found)
    return None if best is None else (best.numerator, best.denominator)


def one_wire(places):
    """A laying of FIVE on one wire: for each place five pairs of a place and a number of pulses."""
    return (1, tuple((0, tuple((to, (number,)) for to, number in steps)) for steps in places))


class Pulses(Case):

    def test_example(self):
        self.same((pulses_of(ENDING, TURN, (0, 0, 1)), dearest(ENDING, TURN, 3), pace(ENDING, TURN)), (4, 4, (1, 1)))
        self.same(pulses_of(row=(0, 1), laying=TURN, book=ENDING), 3)

    def test_rows(self):
        self.same(pulses_of(ENDING, TURN, ()), 0)
        self.same(pulses_of(((),), NONE, ()), 0)
        great = 10 ** 200
        self.same(pulses_of(ONE, simple(ONE, 3, (((great, 0, 7),),)), (4,) * 20000), 20000 * (great + 7))
        self.same(pulses_of(ENDING, ZERO, (0, 0, 0, 1)), 3)
        self.same(pulses_of(BITS, (0, ((0, ((0, ()), (0, ()))),)), (0, 1, 1)), 0)

    def test_against_lots(self):
        source = Source(101)
        for k in range(100):
            book = source.book(5, 4)
            laying = source.laying(book, source.below(7), 1 + source.below(9), 9)
            row = drawn_row(source, book, 30)
            self.same(pulses_of(book, laying, row), sum(lot_of(book, laying, row)))

    def test_errors(self):
        self.refuses(BadBook, -1, pulses_of, None, None, None)
        self.refuses(Stray, 1, pulses_of, ((), ()), None, None)
        self.refuses(BadLaying, -1, pulses_of, BITS, None, None)
        self.refuses(BadRow, -1, pulses_of, BITS, TWO, None)
        self.refuses(BadRow, 2, pulses_of, ENDING, TURN, (0, 1, 0))
        self.refuses(BadRow, -1, pulses_of, BITS, TWO, (0,) * 20001)
        for thing in ODD:
            with self.assertRaises(Refused):
                pulses_of(((),), NONE, thing)
            with self.assertRaises(Refused):
                pace(BITS, thing)
            with self.assertRaises(Refused):
                dearest(BITS, thing, 1)


class Dearest(Case):

    def test_against_all_rows(self):
        source = Source(102)
        for k in range(150):
            book = source.book(4, 3)
            laying = source.laying(book, source.below(4), 1 + source.below(9), 5)
            rows = [row for row, _ in rows_up_to(book, 6)]
            for many in range(7):
                most = max(pulses_of(book, laying, row) for row in rows if len(row) <= many)
                self.same(dearest(book, laying, many), most)

    def test_bounds_of_many(self):
        self.same((dearest(BITS, TWO, 0), dearest(BITS, TWO, 1), dearest(BITS, TWO, 60)), (0, 1, 60))
        self.same(dearest(many=60, laying=TURN, book=ENDING), 61)
        self.same(dearest(((),), NONE, 60), 0)
        for many in (61, 62, 10 ** 50) + NO_SMALL_NUMBER:
            if many != 6:
                self.refuses(BadMany, 0, dearest, BITS, TWO, many)
        self.refuses(BadLaying, -1, dearest, BITS, None, 61)
        self.refuses(BadBook, -1, dearest, None, None, 61)

    def test_a_shorter_row_may_be_the_dearest(self):
        # Behind 1 nothing can be said; round the ring nothing has a pulse.
        laying = (1, ((0, ((0, (0,)), (1, (9,)))), (1, ())))
        self.same([dearest(ENDING, laying, many) for many in (0, 1, 2, 60)], [0, 9, 9, 9])
        self.same((dearest(ENDING, ZERO, 1), dearest(ENDING, ZERO, 2), dearest(ENDING, ZERO, 60)), (1, 2, 31))

    def test_two_thousand_places(self):
        source = Source(103)
        great = 10 ** 300
        steps = [[(source.below(2000), source.below(9) * great) for _ in range(5)] for _ in range(2000)]
        begun = time.monotonic()
        found = dearest(FIVE, one_wire(steps), 60)
        self.assertLess(time.monotonic() - begun, 20)
        best = {0: 0}
        for _ in range(60):
            level = {}
            for place, pulses in best.items():
                for to, more in steps[place]:
                    level[to] = max(level.get(to, 0), pulses + more)
            best = level
        self.same(found, max(best.values()))


class Pace(Case):

    def test_none(self):
        self.same(pace(((),), NONE), None)
        fork = (((0, 1), (1, 1)), ())
        self.same(pace(fork, simple(fork, 2, (((9, 9), (9, 9)), ()))), None)
        # There is a ring, but rows do not come to its places.
        line = (((0, 1),), ((0, 2),), ())
        away = (1, ((0, ((1, (1,)),)), (1, ((2, (5,)),)), (2, ())))
        self.same(pace(line, away), None)

    def test_places_to_which_no_row_comes(self):
        laying = (1, ((0, ((0, (1,)),)), (0, ((1, (100,)),)), (0, ((0, (100,)),))))
        self.same(pace(ONE, laying), (1, 1))

    def test_lowest_terms(self):
        for lots, found in (
            ((2, 2), (2, 1)), ((1, 2), (3, 2)), ((0, 4), (2, 1)), ((1, 2, 3), (2, 1)), ((1, 1, 3), (5, 3)),
            ((0, 0, 0), (0, 1)), ((0,), (0, 1)), ((6, 0, 0, 0), (3, 2)), ((10 ** 300, 0), (5 * 10 ** 299, 1)),
            ((3 * 10 ** 100 + 1, 0, 0), (3 * 10 ** 100 + 1, 3)),
        ):
            many = len(lots)
            laying = (1, tuple((0, (((p + 1) % many, (lots[p],)),)) for p in range(many)))
            self.same(pace(ONE, laying), found)
            self.same(pace(laying=laying, book=ONE), found)

    def test_no_wires_and_no_pulses(self):
        self.same(pace(BITS, (0, ((0, ((0, ()), (0, ()))),))), (0, 1))
        self.same(pace(ENDING, ZERO), (1, 2))
        self.same(pace(BITS, simple(BITS, 6, (((0,) * 6, (0,) * 6),))), (0, 1))

    def test_all_wires_count(self):
        laying = simple(BITS, 6, (((1, 2, 3, 4, 5, 6), (20, 0, 0, 0, 0, 0)),))
        self.same(pace(BITS, laying), (21, 1))

    def test_the_best_of_several_rings(self):
        # The place 0 has a ring of its own, and leads to one of three places; the dearest single step is on neither.
        steps = [
            [(0, 3), (1, 50), (1, 0), (1, 0), (1, 0)], [(2, 7)] * 5, [(3, 1)] * 5, [(1, 2), (1, 1), (4, 90), (4, 0), (4, 0)],
            [(4, 2)] * 5,
        ]
        self.same(pace(FIVE, one_wire(steps)), (10, 3))
        steps[0][0] = (0, 4)
        self.same(pace(FIVE, one_wire(steps)), (4, 1))

    def test_against_all_rings(self):
        source = Source(104)
        found = {}
        for k in range(1200):
            book = source.book(6, 1 + source.below(4))
            laying = source.laying(book, 1 + source.below(3), 1 + source.below(7), source.below(9))
            told = pace(book, laying)
            self.same(told, plain_pace(book, laying))
            self.same(told, level_pace(book, laying))
            found[told] = True
        self.assertGreater(len(found), 60)
        self.assertIn(None, found)

    def test_rings_that_share_places(self):
        source = Source(105)
        for k in range(60):
            many = 2 + source.below(60)
            great = (1, 5, 1000, 10 ** 100)[source.below(4)]
            near = 1 + source.below(many)
            steps = [[((p + source.below(near) + 1) % many, source.below(great + 1)) for _ in range(5)]
                     for p in range(many)]
            laying = one_wire(steps)
            self.same(pace(FIVE, laying), level_pace(FIVE, laying))

    def test_times(self):
        source = Source(106)
        for k in range(60):
            book = source.book(5, 3)
            laying = source.laying(book, 2, 8, 9)
            told = pace(book, laying)
            many = 1 + source.below(999)
            if told is not None:
                more = Fraction(*told) * many
                self.same(pace(book, times(book, laying, many)), (more.numerator, more.denominator))

    def soon(self, steps):
        """The pace of the laying, which is told in good time."""
        begun = time.monotonic()
        told = pace(FIVE, one_wire(steps))
        self.assertLess(time.monotonic() - begun, 20)
        return told

    def holds(self, steps, told):
        """No ring has a greater pace: with the pace taken off, no way brings more and more."""
        numerator, denominator = told
        worth = [0] * len(steps)
        ahead = list(range(len(steps)))
        back = [[] for _ in steps]
        for place, pairs in enumerate(steps):
            for to, more in pairs:
                back[to].append((place, denominator * more - numerator))
        for _ in range(len(steps) + 1):
            changed = {}
            for to in ahead:
                for place, more in back[to]:
                    if more + worth[to] > worth[place]:
                        worth[place] = more + worth[to]
                        changed[place] = True
            ahead = sorted(changed)
        self.assertEqual(ahead, [])

    def test_two_thousand_places(self):
        source = Source(107)
        for great in (3, 10 ** 6, 10 ** 200):
            steps = [[(source.below(2000), source.below(great)) for _ in range(5)] for _ in range(2000)]
            steps = [[((p + 1) % 2000, 0)] + pairs[1:] for p, pairs in enumerate(steps)]
            self.holds(steps, self.soon(steps))
            near = [[((p + source.below(4) + 1) % 2000, source.below(great)) for _ in range(5)] for p in range(2000)]
            self.holds(near, self.soon(near))

    def test_two_thousand_places_in_order(self):
        # One ring of all places, and back from each place to the first one, or to the one behind it.
        ring = [[((p + 1) % 2000, 7 if p == 5 else 0)] * 5 for p in range(2000)]
        self.same(self.soon(ring), (7, 2000))
        first = [[((p + 1) % 2000, 1)] * 4 + [(0, p)] for p in range(2000)]
        self.same(self.soon(first), (1999, 1000))
        ladder = [[((p + 1) % 2000, 2000 - p)] * 2 + [((p - 1) % 2000, p * p)] * 3 for p in range(2000)]
        told = self.soon(ladder)
        self.holds(ladder, told)
        power = [[((p + k) % 2000, (1 << p % 900) * k) for k in range(1, 6)] for p in range(2000)]
        self.holds(power, self.soon(power))
        self.same(pace(ENDING, turns(1000)), (1, 1))

    def test_a_great_book(self):
        source = Source(108)
        laying = source.laying(FULL, 6, 2000, 10 ** 30)
        begun = time.monotonic()
        told = pace(FULL, laying)
        self.assertLess(time.monotonic() - begun, 20)
        ahead = arrows(FULL, laying)
        number = {place: k for k, place in enumerate(ahead)}
        self.holds([[(number[to], more) for to, more in pairs] for pairs in ahead.values()], told)

    def test_errors(self):
        self.refuses(BadBook, -1, pace, None, None)
        self.refuses(BadLaying, -1, pace, BITS, None)
        self.refuses(BadLaying, 0, pace, BITS, (2, ((0, ()),)))


if __name__ == "__main__":
    unittest.main()

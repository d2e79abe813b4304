"""[9] to [9.5] and neverfour.breakers."""

import unittest

from neverfour.books import state_at, way_to
from neverfour.breakers import again, fall, pinch
from neverfour.errors import BadBook, BadLaying, BadWindow, NoFork, NoLasting, NoRing, Stray, Wires
from neverfour.forks import forks, leads
from neverfour.kernel import paper_right
from neverfour.layings import simple
from neverfour.rings import ring_forks
from neverfour.windows import lasting

from tests.case import ENDING, ODD, Case, Source, rows_up_to
from tests.test_windows import BAD_WINDOWS

BITS = (((0, 0), (1, 0)),)
TURNS = (2, ((0, ((1, (1, 0)), (2, (0, 2)))), (0, ((0, (0, 1)), (2, (2, 0)))), (1, ())))
F = (2, ((0, ((1, (2, 0)), (1, (0, 1)))), (0, ((0, (1, 0)), (0, (0, 1))))))
# A fork and seven states that lead on and back to it.
ROUND = (((0, 1), (1, 1)),) + tuple(((0, (s + 1) % 8),) for s in range(1, 8))
GREAT = 10 ** 1200


def total(book, laying, row):
    """The lot and the place of the row, the plain way; None if it is no row."""
    place, lot = 0, (0,) * laying[0]
    for message in row:
        state, moves = laying[1][place]
        steps = {pair[0]: move for pair, move in zip(book[state], moves)}
        if message not in steps:
            return None
        lot = tuple(x + y for x, y in zip(lot, steps[message][1]))
        place = steps[message][0]
    return lot, place


def is_paper(book, laying, window, paper):
    """Whether the tuple is a paper of a cover by [7.4]."""
    word, u, a, b, y = paper
    one, two = total(book, laying, u + (a,)), total(book, laying, u + (b,) + y)
    if word != "cover" or a == b or one is None or two is None:
        return False
    if len(u) > 19999 or len(u) + 1 + len(y) > 20000:
        return False
    return (window is None or 1 + len(y) <= window) and all(x <= z for x, z in zip(one[0], two[0]))


def least_ways(book, state, first, many):
    """All ways of 1 to so many messages from the state that begin with this message, in the order of rows."""
    level = [((first,), dict(book[state])[first])]
    out = list(level)
    for _ in range(many - 1):
        level = [(way + (m,), to) for way, at in level for m, to in book[at]]
        out.extend(level)
    return out


def plain_fall(book, laying, window):
    """The pair by the words of [9.2]."""
    told = lasting(book, window)
    u = min((way_to(book, q) for q in told), key=lambda row: (len(row), row))
    turns, before = [], None
    while True:
        q = state_at(book, u)
        a, b = [m for m, _ in book[q] if set(leads(book, q, m, window - 1)) & set(told)][:2]
        base = total(book, laying, u)[0]

        def brought(row, behind=base):
            return tuple(x - y for x, y in zip(total(book, laying, row)[0], behind))

        one, two = brought(u + (a,)), brought(u + (b,))
        if one[0] <= two[0] and one[1] <= two[1]:
            return tuple(turns), ("cover", u, a, b, ())
        if two[0] <= one[0] and two[1] <= one[1]:
            return tuple(turns), ("cover", u, b, a, ())
        high, low = (a, b) if one[0] > two[0] else (b, a)
        if before is not None:
            u0, high0, low0, w = before
            less, more = total(book, laying, u0 + (high0,))[0], total(book, laying, u0 + w + (high,))[0]
            if less[0] <= more[0] and less[1] <= more[1]:
                return tuple(turns), ("cover", u0, high0, low0, w[1:] + (high,))
        turns.append((u, high, low, max(one[0], two[0])))
        w = [way for way, to in least_ways(book, q, low, min(window - 1, 8)) if to in told][0]
        before = (u, high, low, w)
        u = u + w


def plain_again(book, laying):
    """The paper by the words of [9.3]."""
    q = ring_forks(book)[0]
    c = [m for m, _ in book[q] if q in leads(book, q, m, 9)][0]
    w = [way for way, to in least_ways(book, q, c, 8) if to == q][0]
    b = [m for m, _ in book[q] if m != c][0]
    u = way_to(book, q)
    places = [total(book, laying, u)[1]]
    while places[-1] not in places[:-1]:
        places.append(total(book, laying, u + len(places) * w)[1])
    j = len(places) - 1
    i = places.index(places[-1])
    return ("cover", u + i * w, b, c, w[1:] + (j - i - 1) * w + (b,))


def falling(many):
    """A laying of BITS whose message 0 has one pulse less at each place."""
    return (2, tuple((0, ((min(p + 1, many - 1), (many - p, 0)), (min(p + 1, many - 1), (0, 1)))) for p in range(many)))


class Pinch(Case):

    def test_examples(self):
        self.same(pinch(BITS, simple(BITS, 1, (((1,), (2,)),))), ("cover", (), 0, 1, ()))
        self.same(pinch(BITS, simple(BITS, 1, (((2,), (1,)),))), ("cover", (), 1, 0, ()))
        self.same(pinch(BITS, simple(BITS, 1, (((2,), (2,)),))), ("cover", (), 0, 1, ()))
        self.same(pinch(book=BITS, laying=simple(BITS, 1, (((0,), (0,)),))), ("cover", (), 0, 1, ()))
        self.same(pinch(BITS, simple(BITS, 1, (((GREAT,), (GREAT - 1,)),))), ("cover", (), 1, 0, ()))

    def test_the_least_fork_and_its_least_messages(self):
        book = (((5, 2),), ((3, 1), (4, 1), (9, 2)), ((1, 1), (7, 2)))
        self.same(way_to(book, 1), (5, 1))
        lots = ((((9,),), ((4,), (3,), (0,)), ((1,), (1,))))
        self.same(pinch(book, simple(book, 1, lots)), ("cover", (5, 1), 4, 3, ()))

    def test_drawn_layings(self):
        source = Source(63)
        many = 0
        for k in range(300):
            book = source.book(8, 4)
            if forks(book):
                laying = source.laying(book, 1, 1 + source.below(12), source.below(4))
                paper = pinch(book, laying)
                q = forks(book)[0]
                u = way_to(book, q)
                a, b = [m for m, _ in book[q]][:2]
                one, two = total(book, laying, u + (a,))[0], total(book, laying, u + (b,))[0]
                self.same(paper, ("cover", u, a, b, ()) if one <= two else ("cover", u, b, a, ()))
                self.assertTrue(is_paper(book, laying, 1, paper))
                self.same(paper_right(book, laying, 1, paper), True)
                many += 1
        self.assertGreater(many, 200)

    def test_errors(self):
        self.refuses(BadBook, -1, pinch, None, None)
        self.refuses(Stray, 1, pinch, ((), ()), None)
        self.refuses(BadLaying, -1, pinch, BITS, None)
        for wires in (0, 2, 3, 6):
            lot = (1,) * wires
            self.refuses(Wires, wires, pinch, BITS, simple(BITS, wires, ((lot, lot),)))
            self.refuses(Wires, wires, pinch, (((0, 0),),), simple((((0, 0),),), wires, ((lot,),)))
        self.refuses(NoFork, 0, pinch, (((0, 0),),), simple((((0, 0),),), 1, (((1,),),)))


class Fall(Case):

    def test_examples(self):
        self.same(fall(BITS, simple(BITS, 2, (((1, 0), (0, 1)),)), 2), ((((), 0, 1, 1),), ("cover", (), 0, 1, (0,))))
        self.same(fall(BITS, F, 2), ((((), 0, 1, 2), ((1,), 0, 1, 1)), ("cover", (1,), 0, 1, (0,))))
        self.same(fall(BITS, simple(BITS, 2, (((2, 1), (0, 1)),)), 7), ((), ("cover", (), 1, 0, ())))
        self.same(fall(book=BITS, laying=F, window=2), fall(BITS, F, 2))

    def test_zeros_and_great_lots(self):
        self.same(fall(BITS, simple(BITS, 2, (((0, 0), (0, 0)),)), 2), ((), ("cover", (), 0, 1, ())))
        told = fall(BITS, simple(BITS, 2, (((GREAT, 0), (0, GREAT)),)), 10 ** 30)
        self.same(told, ((((), 0, 1, GREAT),), ("cover", (), 0, 1, (0,))))
        # Message 1 has more on wire 0.
        self.same(fall(BITS, simple(BITS, 2, (((1, 3), (2, 1)),)), 2), ((((), 1, 0, 2),), ("cover", (), 1, 0, (1,))))

    def test_against_the_plain_way(self):
        source = Source(64)
        told = {}
        for k in range(400):
            book = source.book(5, 3) if source.below(3) else (BITS, ROUND)[source.below(2)]
            window = (2, 3, 4, 5, 9, 10 ** 30)[source.below(6)]
            if lasting(book, window):
                laying = source.laying(book, 2, 1 + source.below(20), 1 + source.below(9))
                turns, paper = fall(book, laying, window)
                self.same((turns, paper), plain_fall(book, laying, window))
                self.assertTrue(is_paper(book, laying, window, paper))
                numbers = [turn[3] for turn in turns]
                self.assertEqual(numbers, sorted(set(numbers), reverse=True))
                places = [total(book, laying, turn[0])[1] for turn in turns]
                self.assertEqual(len(places), len(set(places)))
                told[len(turns)] = told.get(len(turns), 0) + 1
        self.assertGreater(min(told[n] for n in (0, 1, 2)), 0)

    def test_many_turns(self):
        for many in (3, 17, 60):
            laying = falling(many)
            self.same(fall(BITS, laying, 2), plain_fall(BITS, laying, 2))
        laying = falling(2000)
        turns, paper = fall(BITS, laying, 2)
        self.same([turn[0] for turn in turns], [(1,) * k for k in range(2000)])
        self.same([turn[1:] for turn in turns], [(0, 1, 2000 - k) for k in range(2000)])
        self.same(paper, ("cover", (1,) * 1999, 0, 1, (0,)))
        self.assertTrue(is_paper(BITS, laying, 2, paper))

    def test_drawn_falls(self):
        source = Source(66)
        told = {}
        book = (((0, 0), (3, 1), (5, 0)), ((0, 0), (2, 1)))
        for k in range(300):
            places = []
            for p in range(40):
                ahead = [min(39, p + 1 + source.below(3)) for _ in range(3)]
                ahead = [to - (to % 2 != side) for to, side in zip(ahead, (0, 1, 0))]
                great, small = 40 - p + source.below(3), source.below(2)
                if p % 2 == 0:
                    lots = ((great, small), (small, great // 2 + 1), (source.below(3), great))
                    places.append((0, tuple(zip(ahead, lots))))
                else:
                    places.append((1, tuple(zip(ahead[:2], ((great, small), (source.below(2), great))))))
            laying = (2, tuple(places))
            turns, paper = fall(book, laying, 2 + source.below(3))
            window = max(2, 1 + len(paper[4]))
            self.same(paper_right(book, laying, window, paper), True)
            self.assertTrue(is_paper(book, laying, 4, paper))
            told[len(turns)] = told.get(len(turns), 0) + 1
            for window in (2, 3, 4, 9):
                self.same(fall(book, laying, window), plain_fall(book, laying, window))
        self.assertGreater(len(told), 3)

    def test_long_ways(self):
        places = []
        for k in range(250):
            for state in range(8):
                to = 8 * k + state + 1 if 8 * k + state < 1999 else 1992
                places.append((state, ((to, (250 - k, 0)), (to, (0, 1)))[:2 if state == 0 else 1]))
        laying = (2, tuple(p if p[0] == 0 else (p[0], ((p[1][0][0], (0, 0)),)) for p in places))
        self.same(lasting(ROUND, 9), (0,))
        turns, paper = fall(ROUND, laying, 9)
        self.same(len(turns), 250)
        self.same(turns[-1], ((1, 0, 0, 0, 0, 0, 0, 0) * 249, 0, 1, 1))
        self.assertTrue(is_paper(ROUND, laying, 9, paper))
        self.refuses(NoLasting, 0, fall, ROUND, laying, 8)

    def test_errors(self):
        one, two = simple(BITS, 1, (((1,), (2,)),)), simple(BITS, 2, (((1, 0), (0, 1)),))
        self.refuses(BadBook, -1, fall, None, None, 0)
        self.refuses(Stray, 1, fall, ((), ()), None, 0)
        self.refuses(BadLaying, -1, fall, BITS, None, 0)
        for window in BAD_WINDOWS + (None,):
            self.refuses(BadWindow, 0, fall, BITS, one, window)
            self.refuses(BadWindow, 0, fall, BITS, two, window)
        for wires in (0, 1, 3, 6):
            lot = (1,) * wires
            for window in (1, 2, 10 ** 30):
                self.refuses(Wires, wires, fall, BITS, simple(BITS, wires, ((lot, lot),)), window)
        self.refuses(NoLasting, 0, fall, BITS, two, 1)
        self.refuses(NoLasting, 0, fall, ENDING, TURNS, 10 ** 30)


class Again(Case):

    def test_examples(self):
        self.same(again(BITS, simple(BITS, 2, (((1, 0), (0, 1)),))), ("cover", (), 1, 0, (1,)))
        self.same(again(ENDING, TURNS), ("cover", (), 1, 0, (0, 1)))
        self.same(again(book=ENDING, laying=TURNS), ("cover", (), 1, 0, (0, 1)))

    def test_any_number_of_wires(self):
        for wires in range(7):
            laying = simple(BITS, wires, (((0,) * wires, (GREAT,) * wires),))
            self.same(again(BITS, laying), ("cover", (), 1, 0, (1,)))

    def test_against_the_plain_way(self):
        source = Source(65)
        long, later = 0, 0
        for k in range(400):
            book = source.book(6, 3)
            if ring_forks(book):
                laying = source.laying(book, source.below(7), 1 + source.below(25), source.below(5))
                paper = again(book, laying)
                self.same(paper, plain_again(book, laying))
                self.assertTrue(is_paper(book, laying, None, paper))
                long += len(paper[4]) > 3
                later += len(paper[1]) > 3
        self.assertGreater(long, 20)
        self.assertGreater(later, 10)

    def test_messages_that_do_not_lead_back(self):
        # At state 0 message 1 is the least one that leads back; b is message 0, which ends.
        book = (((0, 2), (1, 1), (2, 0)), ((5, 0), (6, 0)), ())
        laying = simple(book, 1, (((4,), (1,), (1,)), ((1,), (1,)), ()))
        self.same(again(book, laying), ("cover", (), 0, 1, (5, 0)))
        # The ring begins behind another state; the fork of state 0 is on none.
        book = (((3, 2), (4, 1)), (), ((0, 2), (1, 1)))
        laying = simple(book, 1, (((1,), (1,)), (), ((1,), (1,))))
        self.same(again(book, laying), ("cover", (3,), 1, 0, (1,)))

    def test_two_thousand_places(self):
        laying = (2, tuple((0, (((p + 1) % 2000, (1, 0)), (p, (0, 1)))) for p in range(2000)))
        paper = again(BITS, laying)
        self.same(paper, ("cover", (), 1, 0, (0,) * 1999 + (1,)))
        self.assertTrue(is_paper(BITS, laying, None, paper))
        laying = (2, tuple((0, ((min(p + 1, 1999), (1, 0)), (p, (0, 1)))) for p in range(2000)))
        self.same(again(BITS, laying), ("cover", (0,) * 1999, 1, 0, (1,)))

    def test_errors(self):
        self.refuses(BadBook, -1, again, None, None)
        self.refuses(Stray, 1, again, ((), ()), None)
        self.refuses(BadLaying, -1, again, BITS, None)
        for book in (((),), (((0, 0),),), (((0, 1), (1, 1)), ((2, 1),))):
            lots = tuple(tuple((1,) for _ in state) for state in book)
            self.refuses(NoRing, 0, again, book, simple(book, 1, lots))
        for thing in ODD:
            for breaker in (pinch, again):
                with self.assertRaises(ValueError):
                    breaker(BITS, thing)


class Ways(Case):

    def test_the_plain_ways_of_these_tests(self):
        self.same([way for way, _ in least_ways(ENDING, 0, 0, 2)], [(0,), (0, 0), (0, 1)])
        self.same([row for row, _ in rows_up_to(ENDING, 1)], [(), (0,), (1,)])


if __name__ == "__main__":
    unittest.main()

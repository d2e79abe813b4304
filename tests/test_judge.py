"""[7] to [7.5], [7.7] and neverfour.judge."""

import unittest

from neverfour.cover import soonest
from neverfour.errors import BadBook, BadLaying, BadPaper, BadWindow, HasLasting, Stray, TooMany
from neverfour.judge import greatest, made_paper, right, why
from neverfour.kernel import paper_right
from neverfour.layings import exchanged, made_laying, simple, times, wider
from neverfour.threewires import three_wires
from neverfour.twowires import two_wires

from tests.case import ENDING, ODD, Case, Source, carrying, nested, plain_pairs, plain_why, turns
from tests.test_freewires import downward
from tests.test_windows import BAD_WINDOWS

BITS = (((0, 0), (1, 0)),)
PLAIN = (2, ((0, ((0, (1, 0)), (0, (0, 1)))),))
TURNS = (2, ((0, ((1, (1, 0)), (2, (0, 2)))), (0, ((0, (0, 1)), (2, (2, 0)))), (1, ())))
# Either message leads to one ring of single messages.
RINGED = (((0, 1), (1, 1)), ((2, 1),))
# The same behind one more message.
LATER = (((5, 1),), ((0, 2), (1, 2)), ((2, 2),))
GREAT = 10 ** 1200


def bits(*lots):
    """A laying of BITS with one place."""
    return simple(BITS, len(lots[0]), (lots,))


def ringed(goal, round_lots):
    """A laying of RINGED: message 0 has the goal, message 1 a pulse on wire 1, then the lots of the ring follow."""
    many = len(round_lots)
    places = [(0, ((1, goal), (1, (0, 1, 0))))]
    places += [(1, ((p % many + 1, round_lots[p - 1]),)) for p in range(1, many + 1)]
    return (3, tuple(places))


def layings(source, many):
    """Books and layings of many kinds: drawn ones, thin ones, made ones, some with a number changed."""
    for k in range(many):
        kind = source.below(5)
        book = source.book(1 + source.below(4), 1 + source.below(3))
        if kind == 0:
            laying = source.laying(book, source.below(5), 1 + source.below(8), 1 + source.below(4))
        elif kind == 1:
            laying = carrying(source.laying(book, 1 + source.below(4), 1 + source.below(8), 1 + source.below(6)))
        elif kind == 2:
            book, laying = ENDING, changed(source, turns(2 + source.below(14)))
        elif kind == 3:
            try:
                laying = changed(source, two_wires(book, 1 + source.below(4)))
            except HasLasting:
                continue
        else:
            book = source.book(2, 2)
            laying = changed(source, three_wires(book, 1 + source.below(2)))
        if all(size(lot) <= 2000 for _, moves in laying[1] for _, lot in moves) and len(laying[1]) < 60:
            yield book, laying


def slow_rings(source, book, wires, places):
    """A laying with great lots at the forks, those of unlike messages on unlike wires, and one pulse elsewhere."""
    states = list(range(len(book))) + [source.below(len(book)) for _ in range(places)]
    out = []
    for state in states:
        moves = []
        for k, (_, target) in enumerate(book[state]):
            fitting = [p for p, other in enumerate(states) if other == target]
            lot = [0] * wires
            lot[k % wires] = 1 + source.below(15) if len(book[state]) > 1 else 0
            lot[source.below(wires)] += 1 if k < wires or not any(lot) else 0
            moves.append((fitting[source.below(len(fitting))], tuple(lot)))
        out.append((state, tuple(moves)))
    return (wires, tuple(out))


def size(lot):
    out = 1
    for number in lot:
        out *= number + 1
    return out


def changed(source, laying):
    """The laying, or one with a number or two changed a little."""
    wires, places = laying
    places = [[state, [list(move) for move in moves]] for state, moves in places]
    for _ in range(source.below(3)):
        moves = places[source.below(len(places))][1]
        if moves:
            move = moves[source.below(len(moves))]
            lot = list(move[1])
            wire = source.below(wires)
            lot[wire] = max(0, lot[wire] + source.below(5) - 2)
            if any(lot):
                move[1] = tuple(lot)
    return (wires, tuple((state, tuple(tuple(move) for move in moves)) for state, moves in places))


class Examples(Case):

    def test_of_the_document(self):
        self.same((greatest(BITS, PLAIN), right(BITS, PLAIN, 1), right(BITS, PLAIN, 2)), (1, True, False))
        self.same((why(BITS, PLAIN, 1), why(BITS, PLAIN, 2)), (None, ("cover", (), 0, 1, (0,))))
        self.same((greatest(ENDING, TURNS), right(ENDING, TURNS, 2), right(ENDING, TURNS, None)), (2, True, False))
        self.same(why(ENDING, TURNS, 3), ("cover", (), 1, 0, (0, 1)))
        paper = ("cover", (0, 0), 1, 0, (0, 1))
        self.same(made_paper(ENDING, TURNS, 9, paper), paper)
        self.same(why(BITS, (1, ((0, ((0, (1,)), (0, (0,)))),)), 1), ("nought", (), 1))
        self.same(greatest((((5, 0),),), (1, ((0, ((0, (1,)),)),))), None)
        great = bits((200, 99), (0, 1))
        self.refuses(TooMany, 20100, greatest, BITS, great)
        self.same(right(BITS, great, 6), False)

    def test_by_name(self):
        self.same(right(book=BITS, laying=PLAIN, window=1), True)
        self.same(greatest(book=BITS, laying=PLAIN), 1)
        self.same(why(book=BITS, laying=PLAIN, window=1), None)
        paper = ("cover", (), 0, 1, (0,))
        self.same(made_paper(book=BITS, laying=PLAIN, window=2, thing=paper), paper)


class AgainstThePlainWay(Case):

    def test_all_three(self):
        told = {}
        for book, laying in layings(Source(30), 400):
            full = plain_why(book, laying, None)
            noughts = [lot for _, moves in laying[1] for _, lot in moves if not any(lot)]
            if noughts:
                continue
            least = None if full is None else len(full[4])
            self.same(greatest(book, laying), least)
            told[least] = told.get(least, 0) + 1
            for window in (1, 2, 3, 5, 6, 7, 8, 12, 13, 14, 15, 100, 10 ** 30, None):
                expected = full if full is not None and (window is None or least < window) else None
                self.same(why(book, laying, window), expected)
                self.same(right(book, laying, window), expected is None)
        self.assertGreater(len([n for n in told if n is not None and n > 6]), 5)
        self.assertGreater(told[None], 20)
        self.assertGreater(told[3], 5)

    def test_ways_of_seven_messages_and_more(self):
        source = Source(36)
        books = (BITS, (((0, 1), (1, 0)), ((0, 0), (3, 1))), (((0, 1), (1, 0)), ((0, 2), (3, 2)), ((1, 0),)))
        told = {}
        for k in range(60):
            book = books[source.below(3)]
            laying = changed(source, three_wires(book, 4 + source.below(3)))
            if all(size(lot) <= 20000 for _, moves in laying[1] for _, lot in moves):
                expected = plain_why(book, laying, 9)
                self.same(why(book, laying, None), expected)
                level = len(expected[4]) + 1
                self.same(why(book, laying, 9), expected)
                self.same((greatest(book, laying), right(book, laying, level)), (level - 1, False))
                told[level] = told.get(level, 0) + 1
        self.assertGreater(told[7], 5)
        self.assertGreater(told[8], 3)

    def test_books_without_forks_on_rings(self):
        source = Source(37)
        told = {}
        for k in range(200):
            book = downward(source)
            laying = slow_rings(source, book, 2 + source.below(2), 5 + source.below(20))
            expected = plain_why(book, laying, None)
            self.same(why(book, laying, None), expected)
            level = None if expected is None else len(expected[4]) + 1
            self.same(greatest(book, laying), None if level is None else level - 1)
            for window in (6, 7, 8, 9, 15, 30, 60):
                self.same(why(book, laying, window), expected if level is not None and level <= window else None)
            told[level] = told.get(level, 0) + 1
        self.assertGreater(len([n for n in told if n is not None and n > 6]), 5)
        self.assertGreater(told[None], 20)

    def test_with_noughts(self):
        source = Source(31)
        met_one = 0
        for k in range(300):
            book = source.book(4, 3)
            laying = source.laying(book, source.below(4), 1 + source.below(8), 1)
            wrong = None
            rows = {}
            for u, place, message in plain_steps(book, laying):
                if wrong is None and not any(dict(plain_moves(book, laying, place))[message]):
                    wrong = ("nought", u, message)
            window = (1, 3, 6, 7, None)[source.below(5)]
            expected = plain_why(book, laying, window) if wrong is None else wrong
            self.same(why(book, laying, window), expected)
            self.same(right(book, laying, window), expected is None)
            if wrong is not None:
                self.same(greatest(book, laying), 0)
                met_one += 1
        self.assertGreater(met_one, 100)

    def test_greatest_by_soonest(self):
        source = Source(32)
        for book, laying in layings(source, 60):
            if all(any(lot) for _, moves in laying[1] for _, lot in moves):
                found = [soonest(book, laying, place, a, b) for _, place, a, b in plain_pairs(book, laying)]
                found = [number for number in found if number is not None]
                self.same(greatest(book, laying), min(found) - 1 if found else None)

    def test_papers_are_papers(self):
        for book, laying in layings(Source(33), 150):
            for window in (1, 3, 6, None):
                paper = why(book, laying, window)
                if paper is not None:
                    self.same(paper_right(book, laying, window, paper), True)
                    self.same(made_paper(book, laying, window, paper), paper)

    def test_exchanged_wider_and_many_times(self):
        for book, laying in layings(Source(34), 80):
            found = why(book, laying, 6)
            order = tuple(reversed(range(laying[0])))
            self.same(why(book, exchanged(book, laying, order), 6), found)
            self.same(why(book, times(book, laying, 1000000), 6), found)
            if 0 < laying[0] < 6:
                self.same(why(book, wider(book, laying, 0), 6), found)


def plain_moves(book, laying, place):
    return zip([m for m, _ in book[laying[1][place][0]]], [lot for _, lot in laying[1][place][1]])


def plain_steps(book, laying):
    """Each (u, place, message) of the places that rows come to, in the order of their least rows."""
    rows = {0: ()}
    order = [0]
    for place in order:
        for (message, _), (to, _) in zip(book[laying[1][place][0]], laying[1][place][1]):
            if to not in rows:
                rows[to] = rows[place] + (message,)
                order.append(to)
    return [(rows[place], place, m) for place in order for m, _ in plain_moves(book, laying, place)]


class WhichPaper(Case):

    def test_the_first_place_then_a_then_b_then_y(self):
        three = (((1, 0), (2, 0), (3, 0)),)
        self.same(why(three, simple(three, 1, (((1,), (1,), (1,)),)), 1), ("cover", (), 1, 2, ()))
        self.same(why(three, simple(three, 1, (((2,), (2,), (1,)),)), 1), ("cover", (), 1, 2, ()))
        self.same(why(three, simple(three, 1, (((3,), (2,), (1,)),)), 1), ("cover", (), 2, 1, ()))
        self.same(why(three, simple(three, 2, (((1, 0), (0, 1), (0, 2)),)), 1), ("cover", (), 2, 3, ()))
        # Two ways y are as short; the lesser one is told.
        laying = simple(three, 3, (((1, 0, 0), (0, 1, 0), (0, 0, 1)),))
        self.same(why(three, laying, 6), ("cover", (), 1, 2, (1,)))
        self.same(why(three, laying, None), ("cover", (), 1, 2, (1,)))
        book = (((0, 1), (1, 2)), (), ((0, 3), (1, 4)), ((0, 3),), ((0, 4),))
        for many in (1, 2, 5, 6, 7, 30, 99):
            for more, first in (((0, 1, 0, 0), 0), ((1, 0, 0, 0), 1)):
                goal = (1, many + 1, 0, 0)
                behind = ((0, 1, 5, 0), (0, 1, 0, 5))
                lots = ((goal, (5, 0, 0, 0)), (), behind, (more,), ((0, 1, 0, 0),))
                laying = simple(book, 4, lots)
                paper = ("cover", (), 0, 1, (first,) + (0,) * many)
                self.same(why(book, laying, many + 2), paper)
                self.same(why(book, laying, None), paper)
                self.same(why(book, laying, many + 1), None)

    def test_the_fewest_messages_come_first(self):
        # At place 0 a cover takes two messages, at place 1 one.
        laying = (2, ((0, ((1, (1, 0)), (1, (0, 1)))), (0, ((0, (1, 1)), (0, (2, 2))))))
        self.same(why(BITS, laying, 6), ("cover", (0,), 0, 1, ()))
        # Behind place 0 the places 1 and 2 are as bad; rows come to place 2 first.
        laying = (1, ((0, ((2, (2,)), (1, (1,)))), (0, ((0, (1,)), (0, (1,)))), (0, ((0, (1,)), (0, (1,))))))
        self.same(why(BITS, laying, 1), ("cover", (), 1, 0, ()))
        laying = (2, ((0, ((2, (1, 0)), (1, (0, 1)))), (0, ((0, (1, 0)), (0, (1, 0)))), (0, ((0, (1, 0)), (0, (1, 0))))))
        self.same(why(BITS, laying, 1), ("cover", (0,), 0, 1, ()))

    def test_the_first_nought(self):
        laying = (1, ((0, ((2, (1,)), (1, (0,)))), (0, ((0, (0,)), (0, (1,)))), (0, ((0, (0,)), (0, (1,))))))
        self.same(why(BITS, laying, 1), ("nought", (), 1))
        laying = (1, ((0, ((2, (1,)), (1, (1,)))), (0, ((0, (0,)), (0, (1,)))), (0, ((0, (1,)), (0, (0,))))))
        self.same(why(BITS, laying, None), ("nought", (0,), 1))
        self.same(right(BITS, laying, 1), False)

    def test_noughts_where_no_row_comes(self):
        laying = (2, ((0, ((0, (1, 0)), (0, (0, 1)))), (0, ((0, (0, 0)), (0, (0, 0))))))
        self.same(made_laying(BITS, laying), laying)
        self.same((greatest(BITS, laying), right(BITS, laying, 1), why(BITS, laying, 1)), (1, True, None))

    def test_zero_wires(self):
        for window in (1, 6, 7, None):
            self.same(right(((),), (0, ((0, ()),)), window), True)
            self.same(why(((),), (0, ((0, ()), (0, ()))), window), None)
            self.same(right(BITS, (0, ((0, ((0, ()), (0, ()))),)), window), False)
            self.same(why(BITS, (0, ((0, ((0, ()), (0, ()))),)), window), ("nought", (), 0))
        self.same(greatest(((),), (0, ((0, ()),))), None)
        self.same(greatest((((7, 0),),), (0, ((0, ((0, ()),)),))), 0)


class GreatLots(Case):

    def test_sizes(self):
        for good, bad, told in (((19999,), (20000,), 20001), ((199, 99), (200, 99), 20100), ((9999, 1), (9999, 2), 30000)):
            one = (1,) * len(good)
            for laying in (bits(good, one), bits(one, good)):
                self.same(greatest(BITS, laying), 0)
                for window in (1, 6, 7, None):
                    self.same(right(BITS, laying, window), False)
            for laying in (bits(bad, one), bits(one, bad)):
                self.refuses(TooMany, told, greatest, BITS, laying)
                for window in (None, 7, 10 ** 30):
                    self.refuses(TooMany, told, right, BITS, laying, window)
                    self.refuses(TooMany, told, why, BITS, laying, window)
                for window in range(1, 7):
                    self.same(right(BITS, laying, window), False)
                    self.assertEqual(why(BITS, laying, window)[0], "cover")

    def test_any_size_for_small_windows(self):
        laying = bits((GREAT, 0), (0, GREAT))
        for window in range(1, 7):
            self.same(right(BITS, laying, window), window == 1)
        self.same(why(BITS, laying, 6), ("cover", (), 0, 1, (0,)))
        self.refuses(TooMany, GREAT + 1, why, BITS, laying, 7)
        far = simple(ENDING, 2, (((1, GREAT), (GREAT, 5)), ()))
        self.same((why(ENDING, far, 1), why(ENDING, far, 6)), (None, ("cover", (), 1, 0, (1,))))
        steps = simple(ENDING, 2, (((GREAT, 1), (GREAT * 3, 4)), ()))
        self.same(why(ENDING, steps, 6), ("cover", (), 0, 1, ()))
        steps = simple(ENDING, 2, (((GREAT, 1), (GREAT * 4, 0)), ()))
        self.same((why(ENDING, steps, 1), why(ENDING, steps, 2)), (None, ("cover", (), 1, 0, (1,))))

    def test_places_with_one_message(self):
        # A great lot of a place with one message is not asked as a.
        book = (((0, 1), (1, 2)), ((2, 1),), ())
        laying = simple(book, 2, (((1, 0), (0, 1)), ((GREAT, 0),), ()))
        for window in (1, 6, 7, None):
            self.same(right(book, laying, window), True)
        self.same(greatest(book, laying), None)
        self.same(why(book, simple(book, 2, (((1, 1), (1, 2)), ((GREAT, 0),), ())), None), ("cover", (), 0, 1, ()))

    def test_the_first_great_lot(self):
        book = (((0, 1), (1, 2)), ((0, 1), (1, 1)), ((0, 2), (3, 2)))
        lots = (((1, 0), (0, 1)), ((30000, 0), (40000, 0)), ((50000, 0), (60000, 0)))
        self.refuses(TooMany, 30001, greatest, book, simple(book, 2, lots))
        turned = (2, ((0, ((2, (1, 0)), (1, (0, 1)))), (2, ((1, (50000, 0)), (1, (60000, 0)))),
                      (1, ((2, (30000, 0)), (2, (40000, 0))))))
        self.refuses(TooMany, 30001, greatest, book, turned)
        later = (2, ((0, ((2, (1, 0)), (1, (0, 1)))), (2, ((1, (50000, 0)), (1, (60000, 0)))),
                     (1, ((2, (1, 0)), (2, (40000, 0))))))
        self.refuses(TooMany, 40001, greatest, book, later)

    def test_great_lots_where_no_row_comes(self):
        laying = (2, ((0, ((0, (1, 0)), (0, (0, 1)))), (0, ((0, (GREAT, 0)), (0, (0, GREAT))))))
        self.same((greatest(BITS, laying), right(BITS, laying, None)), (1, False))

    def test_great_lots_come_before_noughts(self):
        laying = bits((20000,), (0,))
        self.refuses(TooMany, 20001, greatest, BITS, laying)
        self.refuses(TooMany, 20001, right, BITS, laying, None)
        self.refuses(TooMany, 20001, why, BITS, laying, 7)
        self.same(right(BITS, laying, 6), False)
        self.same(why(BITS, laying, 6), ("nought", (), 1))


class LongRows(Case):

    def test_rows_of_20000_messages(self):
        laying = ringed((19999, 0, 0), [(1, 0, 0)])
        self.same(why(RINGED, laying, None), ("cover", (), 0, 1, (2,) * 19999))
        self.same(why(RINGED, laying, 20000), ("cover", (), 0, 1, (2,) * 19999))
        self.same(why(RINGED, laying, 19999), None)
        self.same(greatest(RINGED, laying), 19999)
        later = (3, ((0, ((1, (0, 0, 1)),)), (1, ((2, (19999, 0, 0)), (2, (0, 1, 0)))), (2, ((2, (1, 0, 0)),))))
        self.refuses(TooMany, 20001, why, LATER, later, None)
        self.refuses(TooMany, 20001, why, LATER, later, 20000)
        self.same(why(LATER, later, 19999), None)
        shorter = (3, ((0, ((1, (0, 0, 1)),)), (1, ((2, (19998, 0, 0)), (2, (0, 1, 0)))), (2, ((2, (1, 0, 0)),))))
        self.same(why(LATER, shorter, None), ("cover", (5,), 0, 1, (2,) * 19998))

    def test_rings_of_2000_places(self):
        lots = [(0, 0, 1)] * 1999
        lots[7] = (1, 0, 0)
        laying = ringed((19999, 0, 0), lots)
        self.same(greatest(RINGED, laying), 19998 * 1999 + 8)
        self.same(right(RINGED, laying, 19998 * 1999 + 8), True)
        self.same(right(RINGED, laying, 19998 * 1999 + 9), False)
        self.same(right(RINGED, laying, None), False)
        self.refuses(TooMany, 19998 * 1999 + 9, why, RINGED, laying, None)
        self.same(why(RINGED, ringed((2, 0, 0), lots), None), ("cover", (), 0, 1, (2,) * (1999 + 8)))
        # Never a pulse on wire 0.
        self.same(greatest(RINGED, ringed((1, 0, 0), [(0, 0, 1)] * 1999)), None)
        self.same(right(RINGED, ringed((1, 0, 0), [(0, 0, 1)] * 1999), None), True)


class AtTheBounds(Case):

    def test_many_forks_ahead_of_a_long_ring(self):
        # Seven forks one behind another, then 1,800 places of which few have a pulse on the wires 0 and 1.
        book = tuple(((0, s + 1), (1, s + 1)) for s in range(7)) + (((0, 7),),)
        for gap in (1800, 50):
            places = []
            for p in range(127):
                depth = (p + 1).bit_length() - 1
                to = [min(127, 2 * p + 1), min(127, 2 * p + 2)]
                places.append((depth, ((to[0], (2 ** (13 - depth), 0, 1)), (to[1], (0, 2 ** (13 - depth), 1)))))
            for p in range(1800):
                lot = (1, 0, 0) if p % gap == 0 else (0, 1, 0) if p % gap == 1 else (0, 0, 1)
                places.append((7, ((127 + (p + 1) % 1800, lot),)))
            laying = (3, tuple(places))
            level = 1 + 127 * gap + 1
            self.same(greatest(book, laying), level - 1)
            self.same((right(book, laying, level - 1), right(book, laying, level)), (True, False))
            if gap == 50:
                self.same(why(book, laying, None), ("cover", (0,) * 6, 0, 1, (0,) * (level - 1)))
            else:
                self.refuses(TooMany, 6 + level, why, book, laying, None)

    def test_a_laying_right_for_a_great_window(self):
        laying = turns(1000)
        self.assertEqual(len(made_laying(ENDING, laying)[1]), 1999)
        self.same(greatest(ENDING, laying), 1000)
        self.same(right(ENDING, laying, None), False)
        self.same(why(ENDING, laying, None), ("cover", (0,) * 998, 1, 0, (0,) * 999 + (1,)))
        laying = turns(400)
        self.same((right(ENDING, laying, 400), right(ENDING, laying, 401)), (True, False))

    def test_two_thousand_places(self):
        source = Source(35)
        for wires, most in ((1, 3), (2, 140), (3, 26), (6, 4)):
            book = source.book(8, 5, 12)
            while len(book) < 8:
                book = source.book(8, 5, 12)
            laying = carrying(source.laying(book, wires, 2000, most))
            found = greatest(book, laying)
            paper = why(book, laying, None)
            self.same(len(paper[4]), found)
            self.same(paper_right(book, laying, found + 1, paper), True)
            self.same(why(book, laying, found + 1), paper)
            self.same(right(book, laying, max(found, 1)), found > 0)

    def test_many_places_that_are_right(self):
        # One state of five messages, each state of the turns at its own places; right because wires alone tell it.
        five = (tuple((m, 0) for m in range(5)),)
        laying = three_wires(five, 4)
        self.same(len(laying[1]), 468)
        self.same(right(five, laying, 4), True)
        three = (((0, 0), (1, 0), (2, 0)),)
        laying = three_wires(three, 6)
        self.same(len(laying[1]), 1092)
        self.same(right(three, laying, 6), True)
        self.same(why(three, laying, 6), None)

    def test_eight_states_with_five_messages(self):
        book = tuple(tuple((m, (s + m + 1) % 8) for m in range(5)) for s in range(8))
        laying = simple(book, 6, tuple(tuple(tuple(1 + (m == w) for w in range(6)) for m in range(5)) for s in range(8)))
        self.same(greatest(book, laying), 1)
        self.same(why(book, laying, None), ("cover", (), 0, 1, (0,)))
        laying = simple(book, 6, tuple(tuple(tuple(3 * (m == w) for w in range(6)) for m in range(5)) for s in range(8)))
        self.same(why(book, laying, 2), ("cover", (), 0, 1, (0,)))


class Errors(Case):

    def test_the_order_of_the_checks(self):
        great = bits((20000,), (1,))
        for function, more in ((right, (0,)), (why, (0,)), (made_paper, (0, None)), (greatest, ())):
            self.refuses(BadBook, -1, function, None, None, *more)
            self.refuses(Stray, 1, function, ((), ()), None, *more)
            self.refuses(BadLaying, -1, function, BITS, None, *more)
            self.refuses(BadLaying, 0, function, BITS, (1, (None,)), *more)
        for window in BAD_WINDOWS:
            self.refuses(BadWindow, 0, right, BITS, great, window)
            self.refuses(BadWindow, 0, why, BITS, great, window)
            self.refuses(BadWindow, 0, made_paper, BITS, great, window, None)
        self.refuses(TooMany, 20001, right, BITS, great, None)
        self.refuses(TooMany, 20001, why, BITS, great, None)
        self.refuses(TooMany, 20001, greatest, BITS, great)

    def test_wrong_books_and_layings(self):
        for thing in ODD:
            with self.assertRaises(ValueError):
                greatest(thing, thing)
            with self.assertRaises(ValueError):
                right(BITS, thing, 1)

    def test_made_paper(self):
        for thing in ODD + (("cover",), ("cover", (), 0, 1, ()), ("nought", (), 0), nested(20, "cover")):
            self.refuses(BadPaper, 0, made_paper, BITS, PLAIN, None, thing)
        self.refuses(BadPaper, 0, made_paper, BITS, PLAIN, 1, ("cover", (), 0, 1, (0,)))
        # A paper is told also where the lots are great.
        paper = ("cover", (), 1, 0, ())
        self.same(made_paper(BITS, bits((20000,), (1,)), None, paper), paper)


if __name__ == "__main__":
    unittest.main()

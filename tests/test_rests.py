"""[10.2], [10.3], [10.5] and neverfour.rests."""

import unittest

from neverfour.errors import BadBook, BadLaying, BadMany, BadRests, BadWindow, HasLasting, NotRight, Nought, Stray
from neverfour.errors import TooMany
from neverfour.layings import lot_of, simple
from neverfour.makers import make
from neverfour.readers import Reader
from neverfour.rests import RestReader, caps

from tests.case import ENDING, ODD, Case, Source, carrying, nested, turns
from tests.test_readers import TURN, TWO, ZERO, drawn_row
from tests.test_windows import BAD_WINDOWS

BITS = (((0, 0), (1, 0)),)
BAD_NUMBERS = (None, True, False, -1, 0, "", "1", (), (1,), [1], 10 ** 30, nested(20, 1))


def plain_caps(book, laying, many):
    """The caps by the words of [10.2]."""
    wires, places = laying
    reached = [0]
    for place in reached:
        reached.extend(to for to in dict.fromkeys(to for to, _ in places[place][1]) if to not in reached)
    level = [(place, (0,) * wires) for place in reached]
    out = [0] * wires
    for _ in range(many):
        level = list({(to, tuple(x + y for x, y in zip(sums, lot))) for at, sums in level for to, lot in places[at][1]})
        for _, sums in level:
            out = [max(x, y) for x, y in zip(out, sums)]
    return tuple(out)


class Caps(Case):

    def test_examples(self):
        self.same((caps(ENDING, TURN, 1), caps(ENDING, TURN, 2)), ((2, 2), (3, 3)))
        self.same(caps(book=BITS, laying=TWO, many=6), (6, 6))
        self.same(caps(((),), (0, ((0, ()),)), 6), ())
        self.same(caps(((),), (2, ((0, ()),)), 6), (0, 0))

    def test_against_the_plain_way(self):
        source = Source(72)
        for k in range(150):
            book = source.book(4, 3)
            laying = carrying(source.laying(book, 1 + source.below(4), 1 + source.below(9), 4))
            for many in (1, 2, 3, 4):
                self.same(caps(book, laying, many), plain_caps(book, laying, many))

    def test_only_places_that_rows_come_to(self):
        laying = (1, ((0, ((0, (1,)), (0, (2,)))), (0, ((1, (9,)), (1, (9,))))))
        self.same(caps(BITS, laying, 3), (6,))
        laying = (1, ((0, ((0, (1,)), (1, (2,)))), (0, ((1, (9,)), (1, (9,))))))
        self.same(caps(BITS, laying, 3), (27,))

    def test_great_lots(self):
        great = 10 ** 1200
        self.same(caps(BITS, simple(BITS, 2, (((great, 0), (0, 1)),)), 6), (6 * great, 6))

    def test_two_thousand_places(self):
        laying = turns(1000)
        self.same(caps(ENDING, laying, 1), (1998, 1998))
        self.same(caps(ENDING, laying, 6), (2003, 2003))

    def test_errors(self):
        self.refuses(BadBook, -1, caps, None, None, 0)
        self.refuses(Stray, 1, caps, ((), ()), None, 0)
        self.refuses(BadLaying, -1, caps, BITS, None, 0)
        self.refuses(Nought, 1, caps, ENDING, ZERO, 0)
        for many in BAD_NUMBERS + (7,):
            self.refuses(BadMany, 0, caps, BITS, TWO, many)


class Link:
    """A sender that is at most the window ahead of what the reader told, and the pulses that came."""

    def __init__(self, source, book, laying, row, window):
        self.source, self.book, self.laying, self.row, self.window = source, book, laying, row, window
        self.said = 0
        self.ahead = [0] * laying[0]
        self.counts = [0] * laying[0]

    def go(self, told):
        """One thing happens: a message is said, or a pulse comes; False if nothing can."""
        can = [w for w, number in enumerate(self.ahead) if number]
        if self.said < len(self.row) and self.said - told < self.window:
            can.append("say")
        if not can:
            return False
        deed = can[self.source.below(len(can))]
        if deed == "say":
            one, two = (lot_of(self.book, self.laying, self.row[:self.said + k]) for k in (0, 1))
            self.ahead = [number + y - x for number, x, y in zip(self.ahead, one, two)]
            self.said += 1
        else:
            self.ahead[deed] -= 1
            self.counts[deed] += 1
        return True


class RestReaderTest(Case):

    def test_examples(self):
        reader = RestReader(ENDING, TURN, 2)
        self.same(reader.rests(), (4, 4))
        self.same((reader.look((1, 1)), reader.look((1, 3)), reader.told()), ((0, 0), (1,), (0, 0, 1)))
        other = RestReader(book=BITS, laying=TWO, window=1)
        self.same((other.rests(), other.look(rests=(0, 0)), other.told()), ((2, 2), (), ()))
        self.same((other.look((1, 0)), other.look((1, 1)), other.look((0, 1))), ((0,), (1,), (0,)))
        self.same(other.told(), (0, 1, 0))

    def test_without_wires(self):
        reader = RestReader(((),), (0, ((0, ()),)), 6)
        self.same((reader.rests(), reader.look(()), reader.told()), ((), (), ()))

    def test_rests_are_caps_and_one(self):
        source = Source(73)
        for k in range(60):
            book = source.book(3, 2)
            for window in (1, 2):
                laying = make(book, window)
                reader = RestReader(book, laying, window)
                self.same(reader.rests(), tuple(cap + 1 for cap in caps(book, laying, window)))
                self.same(reader.told(), ())

    def test_looks_at_any_moments(self):
        source = Source(74)
        runs = 0
        for k in range(300):
            book = source.book(4, 3)
            window = 1 + source.below(6)
            try:
                laying = make(book, window)
            except TooMany:
                continue
            if laying[0] == 0 or sum(caps(book, laying, window)) > 3000:
                continue
            row = drawn_row(source, book, 12)
            often = 1 + source.below(30)
            reader = RestReader(book, laying, window)
            link = Link(source, book, laying, row, window)
            while link.go(len(reader.told())) or link.counts != list(lot_of(book, laying, reader.told())):
                stuck = not any(link.ahead) and (link.said == len(row) or link.said - len(reader.told()) == window)
                if source.below(often) == 0 or stuck:
                    before = reader.told()
                    new = reader.look(tuple(number % rest for number, rest in zip(link.counts, reader.rests())))
                    self.same(reader.told(), before + new)
                    self.same(reader.told(), row[:len(reader.told())])
            self.same(reader.told(), row)
            plain = Reader(book, laying)
            for wire, number in enumerate(link.counts):
                for _ in range(number):
                    plain.hear(wire)
            if len(row) <= window:
                self.same(plain.told(), row)
            runs += 1
        self.assertGreater(runs, 60)

    def test_looks_at_every_moment_tell_what_a_reader_tells(self):
        source = Source(75)
        for k in range(60):
            window = 1 + source.below(4)
            try:
                book = source.book(4, 3)
                laying = make(book, window)
            except (HasLasting, TooMany):
                continue
            if laying[0] == 0:
                continue
            row = drawn_row(source, book, 8)
            reader, plain = RestReader(book, laying, window), Reader(book, laying)
            link = Link(source, book, laying, row, window)
            before = list(link.counts)
            many = 0
            while link.go(len(reader.told())) and many < 3000:
                many += 1
                for wire in range(laying[0]):
                    if link.counts[wire] > before[wire]:
                        told = plain.hear(wire)
                        rests = tuple(number % rest for number, rest in zip(link.counts, reader.rests()))
                        self.same(reader.look(rests), told)
                        self.same(reader.look(rests), ())
                before = list(link.counts)
            self.same(reader.told(), plain.told())

    def test_a_refused_call_changes_nothing(self):
        reader = RestReader(ENDING, TURN, 2)
        reader.look((1, 0))
        for wrong in (None, 0, "", [], [1, 1], (), (1,), (1, 1, 1), "ab", nested(20, 1)):
            self.refuses(BadRests, -1, reader.look, wrong)
        for wrong in (None, True, False, -1, 4, 10 ** 30, "1", (), (1,), [1], nested(20, 1)):
            self.refuses(BadRests, 0, reader.look, (wrong, 9))
            self.refuses(BadRests, 0, reader.look, (wrong, 1))
            self.refuses(BadRests, 1, reader.look, (3, wrong))
            self.same(reader.told(), (0,))
        self.same(reader.look((1, 1)), (0,))

    def test_windows_from_1_to_6(self):
        for window in range(1, 7):
            laying = make(ENDING, window)
            for less in range(1, window + 1):
                self.same(RestReader(ENDING, laying, less).told(), ())
            if window < 6:
                self.refuses(NotRight, 0, RestReader, ENDING, laying, window + 1)

    def test_two_thousand_places(self):
        laying = turns(1000)
        reader = RestReader(ENDING, laying, 6)
        self.same(reader.rests(), (2004, 2004))
        told = 0
        while told < 3000:
            told += 5
            counts = (told // 1998 * 999 + min(999, told % 1998), told // 1998 * 999 + max(0, told % 1998 - 999))
            self.same(reader.look(tuple(number % 2004 for number in counts)), (0,) * 5)
        self.same(reader.told(), (0,) * 3000)

    def test_errors(self):
        self.refuses(BadBook, -1, RestReader, None, None, 0)
        self.refuses(Stray, 1, RestReader, ((), ()), None, 0)
        self.refuses(BadLaying, -1, RestReader, BITS, None, 0)
        self.refuses(Nought, 1, RestReader, ENDING, ZERO, 0)
        for window in BAD_WINDOWS + (None, 7, 10 ** 30):
            self.refuses(BadWindow, 0, RestReader, BITS, TWO, window)
        for window in range(2, 7):
            self.refuses(NotRight, 0, RestReader, BITS, TWO, window)
        # The lots may be of any size.
        great = simple(BITS, 2, (((10 ** 60, 0), (0, 10 ** 60)),))
        self.same(RestReader(BITS, great, 1).rests(), (10 ** 60 + 1, 10 ** 60 + 1))
        for thing in ODD:
            with self.assertRaises(ValueError):
                RestReader(BITS, thing, 1)


if __name__ == "__main__":
    unittest.main()

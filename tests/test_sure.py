"""[10.4], [10.5] and neverfour.sure."""

import unittest

from neverfour.errors import BadBook, BadCounts, BadLaying, Nought, Stray, TooMany
from neverfour.freewires import free_wires
from neverfour.layings import lot_of, simple
from neverfour.readers import Reader
from neverfour.sure import sure

from tests.case import ENDING, ODD, Case, Source, carrying, nested, turns
from tests.test_freewires import downward
from tests.test_readers import TURN, ZERO, drawn_row

BITS = (((0, 0), (1, 0)),)
TWO = (2, ((0, ((0, (1, 0)), (0, (0, 1)))),))
FORK = (((0, 1), (1, 1)), ())
SLOW = (2, ((0, ((1, (2, 0)), (1, (0, 2)))), (1, ())))
ONE = (((5, 0),),)


def plain_sure(book, laying, counts):
    """The row by the words of [10.4]: pairs of a place and a cut sum, from which the counts can be reached or not."""
    def steps(pair):
        place, sums = pair
        for (message, _), (to, lot) in zip(book[laying[1][place][0]], laying[1][place][1]):
            yield message, (to, tuple(min(x + y, top) for x, y, top in zip(sums, lot, counts)))

    first = (0, (0,) * laying[0])
    order = [first]
    back = {first: []}
    for pair in order:
        for _, other in steps(pair):
            if other not in back:
                back[other] = []
                order.append(other)
            back[other].append(pair)
    hopeful = [pair for pair in order if pair[1] == counts]
    known = set(hopeful)
    for pair in hopeful:
        for other in back[pair]:
            if other not in known:
                known.add(other)
                hopeful.append(other)
    if first not in known:
        return None
    row, pair = (), first
    while pair[1] != counts:
        ways = [(message, other) for message, other in steps(pair) if other in known]
        if len(ways) > 1:
            break
        row, pair = row + (ways[0][0],), ways[0][1]
    return row


def ring(many, at, lot, other):
    """A laying of ONE that goes round so many places; one of them has the lot, the others the other lot."""
    return (len(lot), tuple((0, (((p + 1) % many, lot if p == at else other),)) for p in range(many)))


class Sure(Case):

    def test_examples(self):
        self.same((sure(ENDING, TURN, (0, 2)), sure(ENDING, TURN, (3, 0))), ((), (0,)))
        self.same((sure(FORK, SLOW, (1, 0)), sure(FORK, SLOW, (1, 1)), sure(FORK, SLOW, (0, 0))), ((0,), None, ()))
        self.same(sure(book=FORK, laying=SLOW, counts=(2, 0)), (0,))

    def test_none(self):
        self.same(sure(FORK, SLOW, (3, 0)), None)
        self.same(sure(((),), (1, ((0, ()),)), (1,)), None)
        self.same(sure(((),), (1, ((0, ()),)), (0,)), ())
        self.same(sure(((),), (0, ((0, ()),)), ()), ())
        self.same(sure(ONE, (2, ((0, ((0, (1, 0)),)),)), (5, 1)), None)

    def test_against_the_plain_way(self):
        source = Source(76)
        told = {}
        for k in range(500):
            if source.below(2):
                book = source.book(4, 1 + source.below(3))
            else:
                book = downward(source)
            wires = 1 + source.below(3)
            laying = carrying(source.laying(book, wires, 1 + source.below(9), 1 + source.below(3)))
            for _ in range(4):
                counts = tuple(source.below(7) for _ in range(wires))
                found = sure(book, laying, counts)
                self.same(found, plain_sure(book, laying, counts))
                many = None if found is None else len(found)
                told[many] = told.get(many, 0) + 1
        self.assertGreater(min(told.get(n, 0) for n in (None, 0, 1, 2, 3)), 10)

    def test_more_messages_than_pulses_are_sure(self):
        book = (((0, 1),), ((1, 2),), ((2, 3), (3, 3)), ())
        laying = simple(book, 2, (((0, 1),), ((0, 1),), ((2, 0), (3, 0)), ()))
        self.same(sure(book, laying, (1, 0)), (0, 1))
        self.same(sure(book, laying, (3, 0)), (0, 1, 3))
        self.same(sure(book, laying, (4, 0)), None)

    def test_at_least_what_a_reader_tells(self):
        source = Source(77)
        for k in range(60):
            book = downward(source)
            laying = free_wires(book)
            row = drawn_row(source, book, 12)
            pulses = [w for w, number in enumerate(lot_of(book, laying, row)) for _ in range(number)]
            if len(pulses) > 100:
                continue
            reader = Reader(book, laying)
            while pulses:
                found = sure(book, laying, reader.counts())
                self.same(found[:len(reader.told())], reader.told())
                self.same(found, row[:len(found)])
                reader.hear(pulses.pop(source.below(len(pulses))))

    def test_the_product_of_the_counts(self):
        self.same(sure(BITS, TWO, (199, 99)), ())
        self.refuses(TooMany, 20100, sure, BITS, TWO, (200, 99))
        self.same(sure(BITS, TWO, (19999, 0)), ())
        self.refuses(TooMany, 20001, sure, BITS, TWO, (20000, 0))
        self.refuses(TooMany, 10 ** 2000 + 1, sure, BITS, TWO, (0, 10 ** 2000))
        # That comes ahead of all that is told of the rows.
        self.refuses(TooMany, 20001, sure, FORK, SLOW, (20000, 0))

    def test_long_rows(self):
        self.same(sure(ONE, ring(1, 0, (1,), (1,)), (19999,)), (5,) * 19999)
        laying = ring(2000, 1999, (1, 0), (0, 1))
        self.same(sure(ONE, laying, (10, 0)), (5,) * 20000)
        self.same(sure(ONE, laying, (9, 100)), (5,) * 18000)
        self.refuses(TooMany, 22000, sure, ONE, laying, (11, 0))
        self.refuses(TooMany, 2000 * 19999, sure, ONE, laying, (19999, 0))
        self.refuses(TooMany, 2000 * 9999, sure, ONE, laying, (9999, 1))
        # 1,999 pulses in each round of 2,000.
        self.refuses(TooMany, 19999 + 10, sure, ONE, laying, (0, 19999))
        for at in (0, 1, 1234, 1998):
            laying = ring(2000, at, (1, 0), (0, 1))
            self.same(sure(ONE, laying, (10, 0)), (5,) * (18001 + at))
            self.refuses(TooMany, 20001 + at, sure, ONE, laying, (11, 0))
            self.refuses(TooMany, 2000 * 76 + 1 + at, sure, ONE, laying, (77, 199))
        laying = ring(1999, 7, (1, 0), (0, 1))
        self.refuses(TooMany, 19998 * 1999 + 8, sure, ONE, laying, (19999, 0))

    def test_20000_and_20001_messages(self):
        laying = ring(2, 0, (1, 0), (0, 1))
        self.same(sure(ONE, laying, (9999, 1)), (5,) * 19997)
        self.same(sure(ONE, laying, (0, 9999)), (5,) * 19998)
        self.same(sure(ONE, laying, (0, 10000)), (5,) * 20000)
        self.refuses(TooMany, 20001, sure, ONE, laying, (10001, 0))
        self.refuses(TooMany, 20002, sure, ONE, laying, (0, 10001))

    def test_long_rows_that_part(self):
        # Behind so many rounds the message 9 may have been said, too.
        book = (((5, 0), (9, 1)), ())
        for many, at, last in ((2000, 0, 3), (1999, 700, 50), (7, 3, 2)):
            places = [(0, (((p + 1) % (many - 1), (1, 0) if p == at else (0, 1)), (many - 1, (last, 0)))) for p in range(many - 1)]
            laying = (2, tuple(places) + ((1, ()),))
            for rounds in (3, 40, 5000):
                self.assert_counted(book, laying, (last + rounds, 0), (rounds - 1) * (many - 1) + at + 1)

    def assert_counted(self, book, laying, counts, many):
        """So many messages 5 are sure."""
        if many > 20000:
            self.refuses(TooMany, many, sure, book, laying, counts)
        else:
            self.same(sure(book, laying, counts), (5,) * many)

    def test_two_thousand_places(self):
        self.same(sure(ENDING, turns(1000), (140, 140)), (0,) * 140)
        for counts in ((9, 1998), (9, 1999), (0, 1), (1, 9999)):
            self.same(sure(ENDING, turns(1000), counts), plain_sure(ENDING, turns(1000), counts))
        source = Source(78)
        book = source.book(8, 5, 9)
        for wires, counts in ((1, (19999,)), (2, (140, 140)), (3, (26, 26, 26)), (6, (4, 4, 4, 4, 4, 5))):
            laying = carrying(source.laying(book, wires, 2000, 3))
            found = sure(book, laying, counts)
            self.assertIn(found, (None, ()) if len(book[0]) > 1 else (None, found))

    def test_errors(self):
        self.refuses(BadBook, -1, sure, None, None, None)
        self.refuses(Stray, 1, sure, ((), ()), None, None)
        self.refuses(BadLaying, -1, sure, BITS, None, None)
        self.refuses(Nought, 1, sure, ENDING, ZERO, None)
        for counts in ODD + ([0, 0], (0,), (0, 0, 0), (0, -1), (True, 0), (0, False), (0, "0"), (0, None), ((0,), 0),
                             nested(20, 0), (0, nested(19, 0))):
            self.refuses(BadCounts, 0, sure, BITS, TWO, counts)
        self.refuses(BadCounts, 0, sure, ((),), (0, ((0, ()),)), (0,))
        self.refuses(BadCounts, 0, sure, BITS, TWO, (20000, -1))


if __name__ == "__main__":
    unittest.main()

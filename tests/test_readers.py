"""[10], [10.1], [10.5] and neverfour.readers."""

import unittest

from neverfour.errors import BadBook, BadLaying, BadWire, Nought, Stray
from neverfour.layings import lot_of, simple
from neverfour.makers import make
from neverfour.readers import Reader

from tests.case import ENDING, NO_SMALL_NUMBER, ODD, Case, Source, carrying, rows_up_to, turns
from tests.test_freewires import downward

BITS = (((0, 0), (1, 0)),)
TWO = (2, ((0, ((0, (1, 0)), (0, (0, 1)))),))
TURN = (2, ((0, ((1, (1, 0)), (2, (0, 2)))), (0, ((0, (0, 1)), (2, (2, 0)))), (1, ())))
# At the place 1, to which rows come, and at the place 2, to which none comes, a message has no pulse.
ZERO = (1, ((0, ((1, (1,)), (3, (1,)))), (0, ((0, (0,)), (3, (1,)))), (0, ((0, (0,)), (3, (0,)))), (1, ())))


def plain_told(book, laying, told, counts):
    """The row told behind these counts, by the words of [10] and [10.1]."""
    while True:
        state = 0
        for message in told:
            state = dict(book[state])[message]
        due = []
        for message, _ in book[state]:
            if all(x <= y for x, y in zip(lot_of(book, laying, told + (message,)), counts)):
                due.append(message)
        if not due:
            return told
        told += (min(due),)


def drawn_row(source, book, many):
    """A row of at most so many messages."""
    row, state = (), 0
    while len(row) < many and book[state]:
        message, state = book[state][source.below(len(book[state]))]
        row += (message,)
    return row


class ReaderTest(Case):

    def test_examples(self):
        reader = Reader(ENDING, TURN)
        self.same((reader.hear(1), reader.hear(0)), ((), (0, 0)))
        self.same((reader.told(), reader.counts()), ((0, 0), (1, 1)))
        other = Reader(book=ENDING, laying=TURN)
        self.same((other.hear(0), other.hear(0), other.hear(wire=0)), ((0,), (), (1,)))
        self.same((other.told(), other.counts()), ((0, 1), (3, 0)))

    def test_a_new_reader(self):
        for wires in range(1, 7):
            lot = (1,) * wires
            reader = Reader(BITS, simple(BITS, wires, ((lot, lot),)))
            self.same((reader.told(), reader.counts()), ((), (0,) * wires))
        reader = Reader(((),), (0, ((0, ()),)))
        self.same((reader.told(), reader.counts()), ((), ()))

    def test_against_the_plain_way(self):
        source = Source(70)
        for k in range(150):
            book = source.book(4, 3)
            laying = carrying(source.laying(book, 1 + source.below(4), 1 + source.below(9), 1 + source.below(3)))
            reader = Reader(book, laying)
            told, counts = (), [0] * laying[0]
            for _ in range(40):
                wire = source.below(laying[0])
                counts[wire] += 1
                longer = plain_told(book, laying, told, counts)
                self.same(reader.hear(wire), longer[len(told):])
                told = longer
                self.same((reader.told(), reader.counts()), (told, tuple(counts)))

    def test_the_least_message_that_is_due(self):
        three = (((2, 0), (5, 0), (7, 0)),)
        reader = Reader(three, simple(three, 2, (((1, 1), (0, 1), (1, 0)),)))
        self.same((reader.hear(1), reader.hear(1), reader.hear(0)), ((5,), (5,), (7,)))
        reader = Reader(three, simple(three, 1, (((2,), (2,), (1,)),)))
        self.same((reader.hear(0), reader.hear(0)), ((7,), (7,)))
        reader = Reader(three, simple(three, 1, (((2,), (3,), (2,)),)))
        self.same((reader.hear(0), reader.hear(0), reader.told()), ((), (2,), (2,)))

    def test_many_at_once(self):
        reader = Reader(BITS, simple(BITS, 2, (((1, 0), (5, 5)),)))
        self.same(reader.hear(0), (0,))
        book = (((0, 0), (1, 1)), ())
        late = (2, ((0, ((1, (0, 1)), (2, (9, 9)))), (0, ((1, (1, 0)), (2, (9, 9)))), (1, ())))
        reader = Reader(book, late)
        for _ in range(7):
            self.same(reader.hear(0), ())
        self.same(reader.hear(1), (0,) * 8)

    def test_right_layings_tell_all_that_was_said(self):
        source = Source(71)
        for k in range(60):
            free = source.below(2)
            book = downward(source) if free else source.book(3, 3)
            laying = make(book, None if free else 1)
            row = drawn_row(source, book, 30 if free else 1)
            pulses = [w for w, number in enumerate(lot_of(book, laying, row)) for _ in range(number)]
            reader = Reader(book, laying)
            while pulses:
                reader.hear(pulses.pop(source.below(len(pulses))))
                self.same(reader.told(), row[:len(reader.told())])
            self.same(reader.told(), row)

    def test_what_is_returned_is_fresh(self):
        reader = Reader(BITS, TWO)
        told, counts = reader.told(), reader.counts()
        reader.hear(0)
        self.same((told, counts, reader.told(), reader.counts()), ((), (0, 0), (0,), (1, 0)))
        other = Reader(BITS, TWO)
        self.same(other.told(), ())

    def test_a_refused_call_changes_nothing(self):
        reader = Reader(ENDING, TURN)
        reader.hear(1)
        for wire in NO_SMALL_NUMBER + (2,):
            if wire not in (0, 1) or isinstance(wire, bool):
                self.refuses(BadWire, wire, reader.hear, wire)
                self.same((reader.told(), reader.counts()), ((), (0, 1)))
        self.same(reader.hear(0), (0, 0))
        none = Reader(((),), (0, ((0, ()),)))
        self.refuses(BadWire, 0, none.hear, 0)

    def test_long_rows(self):
        reader = Reader((((4, 0),),), (1, ((0, ((0, (1,)),)),)))
        for _ in range(25000):
            self.assertEqual(reader.hear(0), (4,))
        self.same((reader.told(), reader.counts()), ((4,) * 25000, (25000,)))

    def test_two_thousand_places(self):
        laying = turns(1000)
        reader = Reader(ENDING, laying)
        for _ in range(3):
            for wire in (0, 1):
                for _ in range(999):
                    self.same(reader.hear(wire), (0,))
        # At the place 0 message 1 has 1,998 pulses on wire 1; the first of them tells nothing.
        heard = [reader.hear(1) for _ in range(1998)]
        self.same((heard[0], heard[-1]), ((), (1,)))
        self.same(reader.told(), (0,) * 5994 + (1,))

    def test_errors(self):
        self.refuses(BadBook, -1, Reader, None, None)
        self.refuses(Stray, 1, Reader, ((), ()), None)
        self.refuses(BadLaying, -1, Reader, BITS, None)
        self.refuses(BadLaying, 3, Reader, ENDING, (1, ZERO[1][:3] + ((1, 0),)))
        self.refuses(Nought, 1, Reader, ENDING, ZERO)
        self.refuses(Nought, 0, Reader, BITS, (0, ((0, ((0, ()), (0, ()))),)))
        # The first place is that of the order of met.
        turned = (1, ((0, ((2, (1,)), (1, (1,)))), (0, ((0, (0,)), (0, (1,)))), (0, ((0, (0,)), (0, (1,))))))
        self.refuses(Nought, 2, Reader, BITS, turned)
        # Only where no row comes.
        reader = Reader(ENDING, (1, ((0, ((0, (1,)), (3, (2,)))),) + ZERO[1][1:]))
        self.same(reader.hear(0), (0,))
        for thing in ODD:
            with self.assertRaises(ValueError):
                Reader(BITS, thing)


class RowsOfThisTest(Case):

    def test_plain_told(self):
        self.same(plain_told(ENDING, TURN, (), (1, 1)), (0, 0))
        self.same([row for row, _ in rows_up_to(BITS, 1)], [(), (0,), (1,)])


if __name__ == "__main__":
    unittest.main()

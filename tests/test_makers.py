"""[8.6] and neverfour.makers."""

import unittest

from neverfour.errors import BadBook, BadWindow, NoNumber, Refused, Stray, TooMany
from neverfour.freewires import free_wires
from neverfour.judge import right
from neverfour.layings import made_laying
from neverfour.least import least_wires
from neverfour.makers import make
from neverfour.onewire import one_wire
from neverfour.threewires import three_wires
from neverfour.twowires import two_wires

from tests.case import ENDING, ODD, Case, Source
from tests.test_freewires import downward
from tests.test_rings import CUT121, WIDEST
from tests.test_twowires import WIDE2
from tests.test_windows import BAD_WINDOWS

BITS = (((0, 0), (1, 0)),)


class Make(Case):

    def test_examples(self):
        self.same(make(BITS, 1), two_wires(BITS, 1))
        self.same(make(BITS, 2), three_wires(BITS, 2))
        self.same(make(((),), 3), (0, ((0, ()),)))
        self.same(make(book=((),), window=None), (0, ((0, ()),)))
        self.same(make((((5, 0),),), 6), one_wire((((5, 0),),)))
        # Without answers the places are the states, too: one wire is left to one_wire.
        book = (((5, 1),), ((6, 2),), ((7, 1),))
        self.same(make(book, None), one_wire(book))
        self.same(make(ENDING, 6), two_wires(ENDING, 6))

    def test_which_maker(self):
        source = Source(62)
        told = {}
        for k in range(300):
            book = downward(source) if source.below(2) else source.book(1 + source.below(5), 1 + source.below(3))
            for window in (None, 1, 2, 3, 4, 5, 6):
                wires = least_wires(book, window)
                if wires is None:
                    with self.assertRaises(NoNumber):
                        make(book, window)
                    continue
                maker = {1: one_wire, 2: two_wires, 3: three_wires}.get(wires)
                arguments = (book,) if wires == 1 else (book, window)
                if wires > 1 and window is None:
                    maker, arguments = free_wires, (book,)
                if wires == 0:
                    laying = (0, ((0, ()),))
                else:
                    try:
                        laying = maker(*arguments)
                    except TooMany as error:
                        self.refuses(TooMany, error.what, make, book, window)
                        continue
                self.same(make(book, window), laying)
                self.same(laying[0], wires)
                self.same(made_laying(book, laying), laying)
                self.same(right(book, laying, window), True)
                told[(wires, window is None)] = told.get((wires, window is None), 0) + 1
        self.assertGreater(min(told[(wires, free)] for wires in range(4) for free in (True, False)), 3)

    def test_what_the_makers_raise(self):
        five = (tuple((m, 0) for m in range(5)),)
        self.refuses(TooMany, 3906, make, five, 5)
        self.refuses(TooMany, 2000, make, WIDE2, 2)
        self.refuses(NoNumber, 0, make, BITS, None)
        self.refuses(NoNumber, 1, make, (((0, 1), (1, 1)), ((0, 1), (1, 2)), ()), None)
        self.refuses(TooMany, 120, make, CUT121, None)
        self.refuses(TooMany, 120, make, WIDEST, None)

    def test_errors(self):
        self.refuses(BadBook, -1, make, None, 0)
        self.refuses(Stray, 1, make, ((), ()), 0)
        for window in BAD_WINDOWS + (7, 10 ** 30):
            for book in (BITS, ((),), (((5, 0),),)):
                self.refuses(BadWindow, 0, make, book, window)
        for thing in ODD:
            with self.assertRaises(Refused):
                make(thing, 1)


if __name__ == "__main__":
    unittest.main()

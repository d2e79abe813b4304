"""[8], [8.1] and neverfour.onewire."""

import unittest

from neverfour.errors import BadBook, HasFork, Stray
from neverfour.judge import right
from neverfour.layings import made_laying
from neverfour.onewire import one_wire

from tests.case import ODD, Case, Source


class OneWire(Case):

    def test_examples(self):
        self.same(one_wire((((7, 1),), ((3, 0),))), (1, ((0, ((1, (1,)),)), (1, ((0, (1,)),)))))
        self.same(one_wire(book=(((7, 0),),)), (1, ((0, ((0, (1,)),)),)))
        self.same(one_wire(((),)), (1, ((0, ()),)))

    def test_states_keep_their_numbers(self):
        self.same(one_wire((((9, 2),), (), ((0, 1),))), (1, ((0, ((2, (1,)),)), (1, ()), (2, ((1, (1,)),)))))

    def test_all_rows_of_eight_states(self):
        source = Source(50)
        for k in range(200):
            book = source.book(8, 1)
            laying = made_laying(book, one_wire(book))
            for window in (1, 6, 7, None):
                self.same(right(book, laying, window), True)
            for place, (state, moves) in enumerate(laying[1]):
                self.same((place, moves), (state, tuple((to, (1,)) for _, to in book[state])))

    def test_errors(self):
        self.refuses(HasFork, 0, one_wire, (((0, 0), (1, 0)),))
        self.refuses(HasFork, 1, one_wire, (((0, 2),), ((0, 0), (1, 0)), ((0, 1), (1, 1))))
        self.refuses(Stray, 1, one_wire, ((), ((0, 0), (1, 0))))
        for thing in ODD:
            with self.assertRaises((BadBook, Stray)):
                one_wire(thing)


if __name__ == "__main__":
    unittest.main()

"""The first paragraph of [3] and neverfour.lots."""

import unittest

from neverfour.errors import BadLot, Unlike
from neverfour.lots import below, plus

from tests.case import Case, nested

GREAT = 10 ** 2000


class Lots(Case):

    def test_below(self):
        self.assertIs(below((1, 0), (1, 2)), True)
        self.assertIs(below((2, 0), (1, 2)), False)
        self.assertIs(below((0, 3), (1, 2)), False)
        self.assertIs(below(one=(), two=()), True)
        self.assertIs(below((5,), (5,)), True)
        self.assertIs(below((GREAT, 0), (GREAT, 0)), True)
        self.assertIs(below((GREAT + 1, 0), (GREAT, 9)), False)
        self.assertIs(below((0,) * 50, (0,) * 49 + (1,)), True)
        self.assertIs(below((0,) * 49 + (1,), (0,) * 50), False)

    def test_plus(self):
        self.same(plus((1, 0), (1, 2)), (2, 2))
        self.same(plus(one=(), two=()), ())
        self.same(plus((GREAT,), (1,)), (GREAT + 1,))
        self.same(plus(tuple(range(30)), (1,) * 30), tuple(range(1, 31)))

    def test_errors_in_their_order(self):
        bad = (
            None, True, 0, "", "1", [], [1], [1, 2], (True,), (False, 1), (1, None), (-1,), (1, -1), ("1",), ((),),
            ((1,),), ([],), (1, 2, -GREAT), nested(20, 0), nested(19, 0),
        )
        for function in (below, plus):
            for thing in bad:
                self.refuses(BadLot, 0, function, thing, thing)
                self.refuses(BadLot, 0, function, thing, (1,))
                self.refuses(BadLot, 1, function, (1, 2, 3, 4), thing)
            self.refuses(Unlike, 0, function, (), (1,))
            self.refuses(Unlike, 0, function, (1, 2), (1,))
            self.refuses(Unlike, 0, function, (1, 2), (1, 2, 3))


if __name__ == "__main__":
    unittest.main()

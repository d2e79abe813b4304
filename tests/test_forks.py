"""[4] and neverfour.forks."""

import unittest

from neverfour.errors import BadBook, BadMany, BadState, NoMessage, Stray
from neverfour.forks import forks, leads

from tests.case import NO_SMALL_NUMBER, Case, Source, nested

B = (((0, 1), (3, 2)), ((1, 0), (2, 1)), ())
CHAIN = tuple(((0, s + 1),) if s < 7 else ((0, 0),) for s in range(8))


def plain_leads(book, state, message, many):
    """The states of leads by walking all ways, without keeping which states were met."""
    level = {dict(book[state])[message]} if many else set()
    found = set(level)
    for _ in range(min(many, 30) - 1):
        level = {to for at in level for m, to in book[at]}
        found |= level
    return tuple(sorted(found))


class Forks(Case):

    def test_forks(self):
        self.same(forks(B), (0, 1))
        self.same(forks(book=CHAIN), ())
        self.same(forks(((),)), ())
        self.same(forks((((0, 1),), ((0, 2), (1, 0)), ())), (1,))
        wide = tuple(tuple((m, (s + m) % 8) for m in range(95, 100)) for s in range(8))
        self.same(forks(wide), tuple(range(8)))

    def test_leads_against_the_plain_way(self):
        source = Source(12)
        for _ in range(150):
            book = source.book(8, 3)
            for state in range(len(book)):
                for message, _ in book[state]:
                    for many in (0, 1, 2, 3, len(book) - 1, len(book), len(book) + 1, 10 ** 40):
                        self.same(leads(book, state, message, many), plain_leads(book, state, message, many))

    def test_leads_of_a_long_ring(self):
        for many in range(20):
            self.same(leads(CHAIN, 0, 0, many), tuple(sorted(set([(1 + k) % 8 for k in range(many)]))))
        self.same(leads(book=CHAIN, state=7, message=0, many=1), (0,))
        self.same(leads(CHAIN, 7, 0, 10 ** 3000), tuple(range(8)))

    def test_errors_in_their_order(self):
        for function, more in ((forks, ()), (leads, (None, None, None))):
            self.refuses(BadBook, -1, function, None, *more)
            self.refuses(BadBook, 0, function, (None,), *more)
            self.refuses(Stray, 1, function, ((), ()), *more)
        for state in NO_SMALL_NUMBER + (3,):
            self.refuses(BadState, state, leads, B, state, None, None)
        for message in (None, True, False, 1, -1, 100, "0", (), [0], 10 ** 30, nested(20, 0)):
            self.refuses(NoMessage, message, leads, B, 0, message, None)
        self.refuses(NoMessage, 0, leads, B, 2, 0, 1)
        for many in (None, True, False, -1, -(10 ** 30), "1", (1,), [], nested(20, 1)):
            self.refuses(BadMany, 0, leads, B, 0, 3, many)


if __name__ == "__main__":
    unittest.main()

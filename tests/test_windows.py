"""[4.1] to [4.4] and neverfour.windows."""

import unittest

from neverfour.errors import BadBook, BadState, BadWindow, Stray
from neverfour.forks import forks, leads
from neverfour.windows import lasting, made_window, ranks, special

from tests.case import NO_SMALL_NUMBER, Case, Source, nested

B = (((0, 1), (3, 2)), ((1, 0), (2, 1)), ())
BITS = (((0, 0), (1, 0)),)
BAD_WINDOWS = (True, False, 0, -1, -(10 ** 30), "", "1", "None", (), (1,), [], [1], nested(20, 1))


def plain_ranks(book, window):
    """The ranks by the words of [4.2]."""
    standing = set(forks(book))
    rank = {}
    turn = 0
    while True:
        falling = set()
        for fork in standing:
            messages = [m for m, to in book[fork] if set(leads(book, fork, m, window - 1)) & standing]
            if len(messages) < 2:
                falling.add(fork)
        if not falling:
            break
        for fork in falling:
            rank[fork] = turn
        standing -= falling
        turn += 1
    return tuple(rank[s] if s in rank else (-1 if s in standing else None) for s in range(len(book)))


class MadeWindow(Case):

    def test_windows(self):
        for window in (None, 1, 2, 9, 10 ** 3000):
            self.same(made_window(window), window)
            self.same(made_window(thing=window), window)

    def test_errors(self):
        for thing in BAD_WINDOWS:
            self.refuses(BadWindow, 0, made_window, thing)


class Ranks(Case):

    def test_the_example_of_the_document(self):
        self.same(ranks(B, 1), (0, 0, None))
        self.same(ranks(B, 2), (0, 1, None))
        self.same(ranks(B, 3), (0, -1, None))
        self.same(special(B, 2, 0), 0)
        self.same(special(B, 2, 1), 2)
        self.same(lasting(B, 3), (1,))

    def test_against_the_plain_way(self):
        source = Source(13)
        high = 0
        for _ in range(300):
            book = source.book(8, 3)
            for window in (1, 2, 3, 4, 8, 9, 10 ** 30):
                rank = ranks(book, window)
                self.same(rank, plain_ranks(book, window))
                self.same(lasting(book, window), tuple(s for s in range(len(book)) if rank[s] == -1))
                high = max([high] + [r for r in rank if r is not None])
                for state in range(len(book)):
                    self.check_special(book, window, rank, state)
        self.assertGreater(high, 2)

    def check_special(self, book, window, rank, state):
        told = special(book, window, state)
        if rank[state] is None or rank[state] == -1:
            self.assertIsNone(told)
            return
        fitting = []
        for message, _ in book[state]:
            ends = leads(book, state, message, window - 1)
            if [s for s in ends if rank[s] is not None and (rank[s] == -1 or rank[s] >= rank[state])]:
                fitting.append(message)
        self.assertLess(len(fitting), 2)
        self.same(told, fitting[0] if fitting else book[state][0][0])

    def test_what_holds_of_windows(self):
        source = Source(14)
        for _ in range(200):
            book = source.book(8, 3)
            before = ()
            for window in range(1, 12):
                now = lasting(book, window)
                self.assertEqual(set(before) - set(now), set())
                before = now
            self.same(lasting(book, 1), ())
            self.assertTrue(all(r in (None, 0) for r in ranks(book, 1)))
            self.same(ranks(book, len(book) + 1), ranks(book, 10 ** 50))

    def test_a_great_rank(self):
        # Fork s has two messages that lead to higher forks, so the forks fall one after the other from the last one.
        book = tuple(((0, s + 1), (1, s + 1)) if s < 7 else () for s in range(8))
        self.same(ranks(book, 2), (6, 5, 4, 3, 2, 1, 0, None))
        self.same(special(book, 2, 3), 0)
        late = tuple(((0, min(s + 2, 7)), (1, s + 1)) if s < 7 else ((0, 7),) for s in range(8))
        self.same(ranks(late, 2), plain_ranks(late, 2))

    def test_keywords(self):
        self.same(ranks(book=BITS, window=1), (0,))
        self.same(lasting(book=BITS, window=2), (0,))
        self.same(special(book=BITS, window=1, state=0), 0)

    def test_errors_in_their_order(self):
        for function, more in ((ranks, ()), (lasting, ()), (special, (None,))):
            self.refuses(BadBook, -1, function, None, 0, *more)
            self.refuses(Stray, 1, function, ((), ()), 0, *more)
            for window in BAD_WINDOWS + (None,):
                self.refuses(BadWindow, 0, function, BITS, window, *more)
        for state in NO_SMALL_NUMBER + (3,):
            self.refuses(BadState, state, special, B, 1, state)


if __name__ == "__main__":
    unittest.main()

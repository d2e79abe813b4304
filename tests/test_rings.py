"""[5], [5.1], [5.2] and neverfour.rings."""

import unittest

from neverfour.errors import BadBook, NoNumber, Stray, TooMany
from neverfour.forks import forks, leads
from neverfour.rings import cut_rows, first_fork, knots, rays, ring_forks

from tests.case import Case, Source, rows_up_to

C = (((2, 1), (3, 2)), (), ((0, 3), (1, 4)), ((0, 3),), ((1, 4),))
E = (((3, 1),), ((0, 2), (1, 3)), ((0, 2),), ((1, 3),))
D = (((0, 1), (1, 1)), ((2, 1),))
CUT120 = (
    ((0, 2), (1, 2), (2, 5), (3, 1), (4, 1)), ((0, 2), (1, 4)), ((0, 3), (1, 3), (2, 4), (3, 4)),
    ((0, 4), (1, 4)), ((0, 5), (1, 5), (2, 5)), ((0, 5),),
)
CUT121 = (
    ((0, 1), (1, 6), (2, 2)), ((0, 6), (1, 4), (2, 6), (3, 5), (4, 4)), ((0, 3), (1, 5), (2, 3), (3, 6), (4, 5)),
    ((0, 5), (1, 4), (2, 6), (3, 4)), ((0, 5), (1, 5), (2, 5), (3, 6), (4, 6)), ((0, 6), (1, 6), (2, 6)), ((0, 6),),
)
WIDEST = tuple(tuple((m, s + 1) for m in range(5)) if s < 7 else ((0, 7),) for s in range(8))


def layered(source):
    """A book without a fork on a ring: each state leads to later ones, or goes round alone."""
    while True:
        many = 1 + source.below(6)
        book = []
        for s in range(many):
            if source.below(3) == 0 or s == many - 1:
                book.append(((source.below(4), s),) if source.below(2) else ())
            else:
                standing = [m for m in range(4) if source.below(2)]
                book.append(tuple((m, s + 1 + source.below(many - s - 1)) for m in standing))
        reached = {0}
        for s in range(many):
            if s in reached:
                reached |= {to for m, to in book[s]}
        if len(reached) == many:
            return tuple(book)


def on_ring(book, state):
    return any(state in leads(book, state, m, 9) for m, to in book[state])


class Rings(Case):

    def test_against_the_plain_way(self):
        source = Source(15)
        counts = [0, 0, 0]
        for _ in range(300):
            book = source.book(8, 3)
            ring = tuple(s for s in forks(book) if on_ring(book, s))
            knot = tuple(
                s for s in range(len(book)) if len([m for m, to in book[s] if s in leads(book, s, m, 9)]) > 1
            )
            self.same(ring_forks(book), ring)
            self.same(knots(book), knot)
            counts = [counts[0] + bool(ring), counts[1] + bool(knot), counts[2] + (len(knot) < len(ring))]
            if ring:
                for function in (cut_rows, rays, first_fork):
                    self.refuses(NoNumber, ring[0], function, book)
        self.assertGreater(min(counts), 20)

    def test_knots(self):
        # Only message 0 leads back: the fork is on a ring, but no knot.
        self.same(knots((((0, 0), (1, 1)), ())), ())
        self.same(ring_forks((((0, 0), (1, 1)), ())), (0,))
        self.same(knots(book=(((0, 0), (1, 1), (2, 1)), ((0, 0),))), (0,))
        self.same(ring_forks(book=(((0, 0), (1, 1), (2, 1)), ((0, 0),))), (0,))
        self.same(knots((((0, 1),), ((0, 0), (1, 2)), ((0, 0), (4, 3)), ())), (1,))
        self.same(knots(((),)), ())
        self.same(ring_forks(((),)), ())


class CutRows(Case):

    def test_the_examples_of_the_document(self):
        self.same(cut_rows(C), ((), (2,), (3,), (3, 0), (3, 1)))
        self.same(rays(C), ((3, 0), (3, 1)))
        self.same(first_fork(C), ())
        self.same(rays(E), ((3, 0), (3, 1)))
        self.same(first_fork(E), (3,))
        self.same(rays(D), ((0,), (1,)))

    def test_against_the_plain_way(self):
        source = Source(16)
        many_rays = 0
        for _ in range(300):
            book = layered(source)
            ring = [s for s in range(len(book)) if on_ring(book, s)]
            cut = []
            for row, state in rows_up_to(book, 8):
                states, at = [], 0
                for message in row:
                    states.append(at)
                    at = dict(book[at])[message]
                if not set(states) & set(ring):
                    cut.append((row, state))
                if len(cut) > 130:
                    break
            if len(cut) > 120:
                self.refuses(TooMany, 120, cut_rows, book)
                continue
            self.same(cut_rows(book), tuple(row for row, state in cut))
            self.same(rays(book), tuple(row for row, state in cut if state in ring))
            first = [row for row, state in rows_up_to(book, 8) if state in forks(book)]
            self.same(first_fork(book), first[0] if first else None)
            many_rays += len(rays(book)) > 2
        self.assertGreater(many_rays, 20)

    def test_edges(self):
        self.same(cut_rows(((),)), ((),))
        self.same(rays(((),)), ())
        self.same(first_fork(((),)), None)
        self.same(cut_rows(book=(((5, 0),),)), ((),))
        self.same(rays(book=(((5, 0),),)), ((),))
        self.same(first_fork(book=(((5, 0),),)), None)
        self.same(cut_rows((((5, 1),), ((6, 2),), ((7, 1),))), ((), (5,)))
        self.same(rays((((5, 1),), ((6, 2),), ((7, 1),))), ((5,),))

    def test_bounds(self):
        self.assertEqual(len(cut_rows(CUT120)), 120)
        self.assertLess(len(rays(CUT120)), 120)
        self.same(first_fork(CUT120), ())
        for function in (cut_rows, rays, first_fork):
            self.refuses(TooMany, 120, function, CUT121)
            self.refuses(TooMany, 120, function, WIDEST)
            self.refuses(TooMany, 120, function, WIDEST[:7] + ((),))

    def test_a_fork_on_a_ring_comes_before_the_number_of_rows(self):
        book = WIDEST[:7] + (((0, 7), (1, 7)),)
        for function in (cut_rows, rays, first_fork):
            self.refuses(NoNumber, 7, function, book)
        book = (((0, 1), (1, 2)), ((0, 1), (1, 1)), ((0, 2), (3, 2)))
        for function in (cut_rows, rays, first_fork):
            self.refuses(NoNumber, 1, function, book)

    def test_errors(self):
        for function in (knots, ring_forks, cut_rows, rays, first_fork):
            self.refuses(BadBook, -1, function, None)
            self.refuses(BadBook, 0, function, (None,))
            self.refuses(Stray, 1, function, ((((0, 0), (1, 0)), ())))


if __name__ == "__main__":
    unittest.main()

"""[8.5] and neverfour.freewires."""

import unittest

from neverfour.books import state_at, trimmed
from neverfour.errors import BadBook, NoNumber, Stray, TooMany
from neverfour.freewires import free_wires
from neverfour.judge import right
from neverfour.layings import made_laying
from neverfour.least import least_wires
from neverfour.rings import cut_rows, first_fork, rays, ring_forks

from tests.case import ODD, Case, Source, plain_why
from tests.test_rings import CUT120, CUT121, WIDEST, C, D, E


def children(book, told, wires, row):
    """The messages behind a cut row in the order of children, by the words of [8.5]."""
    if row in told:
        return []
    messages = [m for m, _ in book[state_at(book, row)]]
    going = [ray for ray in told if ray[:len(row)] == row]
    if wires == 2 and len(told) in (1, 2) and len(messages) > 1:
        if len(told) == 2 and told[0] in going:
            messages.remove(told[0][len(row)])
            messages.insert(0, told[0][len(row)])
        if told[-1] in going:
            messages.remove(told[-1][len(row)])
            messages.append(told[-1][len(row)])
    return messages


def plain_free(book):
    """The laying by the words of [8.5], for books without a fork on a ring."""
    told, wires = rays(book), least_wires(book, None)

    def numbered(turned):
        numbers = {}

        def go(row):
            numbers[row] = len(numbers)
            messages = children(book, told, wires, row)
            for message in reversed(messages) if turned else messages:
                go(row + (message,))

        go(())
        return numbers

    def behind(place, message, to):
        return (to, place[1]) if place[1] in told else (to, place[1] + (message,))

    def lot(row, message):
        if wires < 2:
            return (1,)
        if row in told:
            if wires == 3:
                return (0, 0, 1)
            return (0, 1) if len(told) == 2 and row == told[0] else (1, 0)
        longer = row + (message,)
        return (x[longer] - x[row], y[longer] - y[row]) + (0,) * (wires - 2)

    x, y = numbered(False), numbered(True)
    assert sorted(x) == sorted(cut_rows(book))
    order = [(0, ())]
    for place in order:
        for message, to in book[place[0]]:
            if behind(place, message, to) not in order:
                order.append(behind(place, message, to))
    out = []
    for place in order:
        moves = [(order.index(behind(place, m, to)), lot(place[1], m)) for m, to in book[place[0]]]
        out.append((place[0], tuple(moves)))
    return (wires, tuple(out))


def downward(source):
    """A book without a fork on a ring: states that lead on only, then an end, or a ring or two."""
    many = 1 + source.below(5)
    states = []
    for state in range(many):
        last = many + 2
        states.append({m: state + 1 + source.below(last - state) for m in range(5) if source.below(2)})
    if not states[0]:
        states[0] = {1: 1}
    for state in range(1, many):
        if not states[state]:
            states[state] = {source.below(4): many}
    states.append({6: many + 1} if source.below(2) else {})
    states.append({7: many} if source.below(2) else {})
    states.append({8: many + 2} if source.below(3) else {})
    return trimmed(tuple(tuple(sorted(state.items())) for state in states))


class FreeWires(Case):

    def test_examples(self):
        told = (2, ((0, ((1, (1, 2)), (2, (2, 1)))), (1, ((1, (0, 1)),)), (1, ((2, (1, 0)),))))
        self.same(free_wires(D), told)
        self.same(free_wires(book=D), told)
        self.same(free_wires(((),)), (0, ((0, ()),)))

    def test_one_wire(self):
        self.same(free_wires((((5, 0),),)), (1, ((0, ((0, (1,)),)),)))
        self.same(free_wires((((5, 1),), ())), (1, ((0, ((1, (1,)),)), (1, ()))))
        # State 0 leads to a ring of two states.
        self.same(free_wires((((5, 1),), ((6, 2),), ((7, 1),))), (1, ((0, ((1, (1,)),)), (1, ((2, (1,)),)), (2, ((1, (1,)),)))))

    def test_no_ray(self):
        book = (((0, 1), (1, 2), (2, 2)), ((0, 2), (3, 2)), ())
        self.same(rays(book), ())
        # x goes through (), 0, 00, 03, 1, 2; y through (), 2, 1, 0, 03, 00.
        self.same(free_wires(book), (2, (
            (0, ((1, (1, 3)), (2, (4, 2)), (3, (5, 1)))), (1, ((4, (1, 2)), (5, (2, 1)))), (2, ()), (2, ()), (2, ()), (2, ()),
        )))

    def test_one_ray(self):
        # The message of the ray comes last, though it is the least one.
        book = (((0, 1), (1, 2), (2, 2)), ((9, 1),), ())
        self.same(rays(book), ((0,),))
        self.same(free_wires(book), (2, (
            (0, ((1, (3, 1)), (2, (1, 3)), (3, (2, 2)))), (1, ((1, (1, 0)),)), (2, ()), (2, ()),
        )))

    def test_two_rays(self):
        # The message of the first ray comes first, though it is the greatest but one; that of the second one last.
        book = (((0, 3), (1, 3), (5, 2), (7, 1), (9, 3)), ((0, 2),), ((4, 2),), ())
        self.same(rays(book), ((5,), (7, 0)))
        self.same(free_wires(book), (2, (
            (0, ((1, (2, 5)), (2, (3, 4)), (3, (1, 6)), (4, (5, 1)), (5, (4, 3)))),
            (3, ()), (3, ()), (2, ((3, (0, 1)),)), (1, ((6, (1, 1)),)), (3, ()), (2, ((6, (1, 0)),)),
        )))

    def test_three_wires(self):
        # Two rays that go on alike from the first fork.
        self.same(least_wires(C, None), 3)
        self.same(free_wires(C), plain_free(C))
        self.same(free_wires(C), (3, (
            (0, ((1, (1, 4, 0)), (2, (2, 1, 0)))), (1, ()), (2, ((3, (1, 2, 0)), (4, (2, 1, 0)))),
            (3, ((3, (0, 0, 1)),)), (4, ((4, (0, 0, 1)),)),
        )))
        three = (((0, 1), (1, 1), (2, 1)), ((5, 1),))
        self.same(free_wires(three), plain_free(three))
        self.same(free_wires(three)[1][1], (1, ((1, (0, 0, 1)),)))

    def test_both_rays_go_on_with_one_message(self):
        self.same((rays(E), first_fork(E)), (((3, 0), (3, 1)), (3,)))
        self.same(free_wires(E), (2, (
            (0, ((1, (1, 1)),)), (1, ((2, (1, 2)), (3, (2, 1)))), (2, ((2, (0, 1)),)), (3, ((3, (1, 0)),)),
        )))
        self.same(free_wires(E), plain_free(E))

    def test_against_the_plain_way(self):
        source = Source(60)
        told = {}
        for k in range(500):
            book = downward(source)
            self.same(ring_forks(book), ())
            if len(cut_rows(book)) > 120:
                continue
            laying = free_wires(book)
            self.same(laying, plain_free(book))
            self.same(made_laying(book, laying), laying)
            self.same(laying[0], least_wires(book, None))
            self.same(right(book, laying, None), True)
            kind = (laying[0], min(3, len(rays(book))))
            told[kind] = told.get(kind, 0) + 1
        for kind in ((1, 1), (2, 0), (2, 1), (2, 2), (3, 2), (3, 3)):
            self.assertGreater(told[kind], 1, kind)

    def test_right_by_a_plain_search(self):
        source = Source(61)
        for k in range(150):
            book = downward(source)
            if len(cut_rows(book)) <= 20:
                self.same(plain_why(book, free_wires(book), None), None)

    def test_120_and_121_cut_rows(self):
        self.same(len(cut_rows(CUT120)), 120)
        laying = free_wires(CUT120)
        self.same(right(CUT120, laying, None), True)
        self.same(laying, plain_free(CUT120))
        self.refuses(TooMany, 120, free_wires, CUT121)
        self.refuses(TooMany, 120, free_wires, WIDEST)

    def test_errors(self):
        self.refuses(BadBook, -1, free_wires, None)
        self.refuses(Stray, 1, free_wires, ((), ()))
        self.refuses(NoNumber, 0, free_wires, (((0, 0), (1, 0)),))
        self.refuses(NoNumber, 1, free_wires, (((0, 1), (1, 1)), ((0, 1), (1, 2)), ()))
        for thing in ODD:
            with self.assertRaises(ValueError):
                free_wires(thing)


if __name__ == "__main__":
    unittest.main()

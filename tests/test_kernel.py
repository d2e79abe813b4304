"""[7.4], [7.6] and neverfour.kernel."""

import unittest

from neverfour.errors import BadBook, BadLaying, BadPaper, BadWindow, Stray, TooMany
from neverfour.kernel import hearing, paper_right
from neverfour.layings import lot_of, simple
from neverfour.lots import below

from tests.case import ENDING, ODD, Case, Source, nested, rows_up_to
from tests.test_windows import BAD_WINDOWS

BITS = (((0, 0), (1, 0)),)
PLAIN = (2, ((0, ((0, (1, 0)), (0, (0, 1)))),))
TURNS = (2, ((0, ((1, (1, 0)), (2, (0, 2)))), (0, ((0, (0, 1)), (2, (2, 0)))), (1, ())))
COVER = ("cover", (1, 1), 0, 1, (0,))
GREAT = 10 ** 1200


def plain_paper(book, laying, window, u, a, b, y):
    """Whether the two rows cover by the words of [7.4], for what has the form of a paper."""
    rows = {row for row, _ in rows_up_to(book, len(u) + len(y) + 1)}
    if u + (a,) not in rows or u + (b,) + y not in rows or a == b:
        return False
    if window is not None and len(y) + 1 > window:
        return False
    return below(lot_of(book, laying, u + (a,)), lot_of(book, laying, u + (b,) + y))


class PaperRight(Case):

    def test_examples(self):
        self.same(paper_right(BITS, PLAIN, 2, COVER), True)
        self.same(paper_right(BITS, PLAIN, 1, COVER), False)
        self.same(paper_right(book=BITS, laying=PLAIN, window=2, thing=COVER), True)

    def test_against_the_plain_way(self):
        source = Source(40)
        told = {True: 0, False: 0}
        for k in range(300):
            book = source.book(3, 3)
            laying = source.laying(book, source.below(4), 1 + source.below(5), 3)
            rows = [row for row, _ in rows_up_to(book, 3)]
            for _ in range(20):
                u = rows[source.below(len(rows))]
                y = tuple(source.below(6) for _ in range(source.below(4)))
                a, b = source.below(6), source.below(6)
                window = (None, 1, 2, 3, 10 ** 30)[source.below(5)]
                found = paper_right(book, laying, window, ("cover", u, a, b, y))
                self.same(found, plain_paper(book, laying, window, u, a, b, y))
                told[found] += 1
                zeros = u + (a,) in rows and lot_of(book, laying, u + (a,)) == lot_of(book, laying, u)
                if len(u) < 3:
                    self.same(paper_right(book, laying, window, ("nought", u, a)), zeros)
        self.assertGreater(min(told.values()), 50)

    def test_noughts(self):
        laying = (1, ((0, ((1, (1,)), (2, (0,)))), (0, ((0, (1,)), (2, (1,)))), (1, ())))
        self.same(paper_right(ENDING, laying, 1, ("nought", (), 1)), True)
        self.same(paper_right(ENDING, laying, None, ("nought", (), 1)), True)
        self.same(paper_right(ENDING, laying, 1, ("nought", (), 0)), False)
        self.same(paper_right(ENDING, (1, laying[1][:1] + ((0, ((0, (0,)), (2, (1,)))),) + laying[1][2:]), 1,
                              ("nought", (0,), 0)), True)
        self.same(paper_right(ENDING, TURNS, 1, ("nought", (0,), 0)), False)
        self.same(paper_right(BITS, (0, ((0, ((0, ()), (0, ()))),)), 1, ("nought", (0, 1), 0)), True)

    def test_things_near_papers(self):
        u, a, b, y = COVER[1:]
        for thing in (
            ["cover", u, a, b, y], ("cover", list(u), a, b, y), ("cover", u, a, b, list(y)), ("cover", u, a, b),
            ("cover", u, a, b, y, y), ("Cover", u, a, b, y), ("cove", u, a, b, y), ("", u, a, b, y), (0, u, a, b, y),
            ("nought", u, a, b, y), ("cover", u, a), ("cover", u, b, a, y), ("cover", u, a, a, y), ("cover", u, b, b, y),
            ("cover", u, 2, b, y), ("cover", u, a, 2, y), ("cover", u, a, b, (2,)), ("cover", (1, 2), a, b, y),
            ("cover", u, False, b, y), ("cover", u, a, True, y), ("cover", u, a, b, (False,)), ("cover", (1, True), a, b, y),
            ("cover", u, (a,), b, y), ("cover", u, a, [b], y), ("cover", u, a, b, ((0,),)), ("cover", None, a, b, y),
            ("cover", u, None, b, y), ("cover", u, a, None, y), ("cover", u, a, b, None), ("cover", "", a, b, ""),
            ("cover", u, a, b, ()), (("cover",), u, a, b, y), ([], u, a, b, y), (None, u, a, b, y), (True, u, a, b, y),
            ("cover", 0, a, b, y), ("cover", u, a, b, 0), ("cover", u, -1, b, y), ("cover", u, GREAT, b, y),
            ("nought", u, a), ("nought", u), ("nought", u, [a]), ("nought", list(u), a), ("nought", u, True),
            ("nought", u, None), ("nought", 0, a), ("nought", u, 7), ("nought", (7,), a),
        ) + ODD + (nested(20, "cover"), nested(20, COVER), (COVER,)):
            for window in (2, None):
                self.same(paper_right(BITS, PLAIN, window, thing), False)

    def test_wrong_parts_at_every_place(self):
        for wrong in ODD:
            if isinstance(wrong, int) and not isinstance(wrong, bool) or wrong == ():
                continue
            for k in range(5):
                self.same(paper_right(BITS, PLAIN, None, COVER[:k] + (wrong,) + COVER[k + 1:]), False)
            for k in range(3):
                paper = ("nought", (), 0)
                self.same(paper_right(BITS, (0, ((0, ((0, ()), (0, ()))),)), 1, paper[:k] + (wrong,) + paper[k + 1:]), False)

    def test_windows(self):
        for many in (1, 5, 6, 7, 20):
            paper = ("cover", (), 0, 1, (0,) * many)
            self.same(paper_right(BITS, PLAIN, many, paper), False)
            for window in (many + 1, many + 2, 10 ** 30, None):
                self.same(paper_right(BITS, PLAIN, window, paper), True)

    def test_rows_of_20000_messages(self):
        nothing = (0, ((0, ((0, ()), (0, ()))),))
        self.same(paper_right(BITS, nothing, None, ("nought", (1,) * 20000, 0)), True)
        self.same(paper_right(BITS, nothing, None, ("nought", (1,) * 20001, 0)), False)
        self.same(paper_right(BITS, PLAIN, 1, ("cover", (1,) * 19999, 0, 1, ())), False)
        self.same(paper_right(BITS, nothing, 1, ("cover", (1,) * 19999, 0, 1, ())), True)
        self.same(paper_right(BITS, nothing, 1, ("cover", (1,) * 20000, 0, 1, ())), False)
        self.same(paper_right(BITS, PLAIN, None, ("cover", (1,) * 10000, 0, 1, (0,) * 9999)), True)
        self.same(paper_right(BITS, PLAIN, None, ("cover", (1,) * 10000, 0, 1, (0,) * 10000)), False)
        self.same(paper_right(BITS, PLAIN, None, ("cover", (1,) * 10000, 0, 1, (0,) * 200000)), False)

    def test_great_lots(self):
        laying = simple(BITS, 2, (((GREAT, 0), (GREAT - 1, GREAT)),))
        self.same(paper_right(BITS, laying, None, ("cover", (), 0, 1, (1,))), True)
        self.same(paper_right(BITS, laying, None, ("cover", (), 0, 1, ())), False)

    def test_errors(self):
        self.refuses(BadBook, -1, paper_right, None, None, 0, None)
        self.refuses(Stray, 1, paper_right, ((), ()), None, 0, None)
        self.refuses(BadLaying, -1, paper_right, BITS, None, 0, None)
        self.refuses(BadLaying, 0, paper_right, BITS, (1, (None,)), 0, None)
        for window in BAD_WINDOWS:
            self.refuses(BadWindow, 0, paper_right, BITS, PLAIN, window, None)


class Hearing(Case):

    def test_examples(self):
        self.same(hearing(BITS, PLAIN, COVER), (1, 1, 0))
        self.same(hearing(ENDING, TURNS, ("cover", (), 1, 0, (0, 1))), (1, 1))
        self.same(hearing(book=BITS, laying=PLAIN, paper=COVER), (1, 1, 0))

    def test_order_of_pulses(self):
        laying = simple(BITS, 3, (((2, 0, 1), (1, 3, 0)),))
        self.same(hearing(BITS, laying, ("cover", (0, 1), 0, 1, (0,))), (0, 0, 2, 0, 1, 1, 1, 0, 0, 2))
        nothing = (0, ((0, ((0, ()), (0, ()))),))
        self.same(hearing(BITS, nothing, ("cover", (0, 1), 0, 1, ())), ())
        zeros = simple(BITS, 2, (((0, 0), (0, 1)),))
        self.same(hearing(BITS, zeros, ("cover", (0, 1, 0, 1), 0, 1, ())), (1, 1))

    def test_any_window(self):
        self.same(hearing(BITS, PLAIN, ("cover", (), 0, 1, (1,) * 500 + (0,))), (0,))

    def test_5000_pulses(self):
        self.same(hearing(BITS, PLAIN, ("cover", (1,) * 4999, 0, 1, (0,))), (1,) * 4999 + (0,))
        self.refuses(TooMany, 5001, hearing, BITS, PLAIN, ("cover", (1,) * 5000, 0, 1, (0,)))
        laying = simple(BITS, 2, (((2500, 2500), (2500, 2500)),))
        self.same(hearing(BITS, laying, ("cover", (), 0, 1, ())), (0,) * 2500 + (1,) * 2500)
        self.refuses(TooMany, 10000, hearing, BITS, laying, ("cover", (1,), 0, 1, ()))
        laying = simple(BITS, 2, (((GREAT, 1), (GREAT, 1)),))
        self.refuses(TooMany, GREAT + 1, hearing, BITS, laying, ("cover", (), 0, 1, ()))
        # Only the pulses of ua are counted.
        laying = simple(BITS, 2, (((1, 0), (GREAT, 1)),))
        self.same(hearing(BITS, laying, ("cover", (), 0, 1, ())), (0,))

    def test_errors(self):
        self.refuses(BadBook, -1, hearing, None, None, None)
        self.refuses(Stray, 1, hearing, ((), ()), None, None)
        self.refuses(BadLaying, -1, hearing, BITS, None, None)
        self.refuses(BadLaying, 0, hearing, BITS, (1, (None,)), None)
        nothing = (0, ((0, ((0, ()), (0, ()))),))
        for paper in ODD + (("nought", (), 0), ("cover", (), 0, 1, ()), list(COVER), ("cover", (), 0, 1, [0])):
            self.refuses(BadPaper, 0, hearing, BITS, PLAIN, paper)
        self.same(paper_right(BITS, nothing, None, ("nought", (), 0)), True)
        self.refuses(BadPaper, 0, hearing, BITS, nothing, ("nought", (), 0))
        self.refuses(BadPaper, 0, hearing, BITS, PLAIN, ("cover", (1,) * 5000, 0, 1, ()))


if __name__ == "__main__":
    unittest.main()

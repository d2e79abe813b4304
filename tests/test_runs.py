"""[12.3], [12.4] and neverfour.runs."""

import unittest

from neverfour.errors import BadBook, BadLaying, BadManner, BadPicks, BadRow, BadWindow, Nought, TooMany
from neverfour.layings import lot_of, simple
from neverfour.least import least_wires
from neverfour.makers import make
from neverfour.runs import whole_run

from tests.case import ENDING, ODD, Case, Source, carrying, nested, turns
from tests.test_freewires import downward
from tests.test_readers import ZERO, drawn_row
from tests.test_worlds import BITS, ONE, PULSE, TWO, PlainWorld


def plain_run(book, laying, window, manner, row, picks):
    """What whole_run tells, by the words of [12.3]."""
    world = PlainWorld(book, laying, window, manner)
    turns_done, most = 0, 0
    while True:
        deeds = []
        if len(world.said) < len(row) and (window is None or len(world.said) - world.answered < window):
            deeds.append(lambda: world.say(row[len(world.said)]))
        for wire, number in enumerate(world.away):
            if number > 0:
                deeds.append(lambda wire=wire: world.come(wire))
        if world.owed > 0:
            deeds.append(world.answer)
        if not deeds:
            return (world.told, turns_done, most)
        deeds[picks[turns_done % len(picks)] % len(deeds)]()
        turns_done += 1
        most = max(most, len(world.said) - world.answered)


class WholeRun(Case):

    def test_example(self):
        self.same(whole_run(BITS, TWO, 1, "plain", (0, 1), (0,)), ((0, 1), 6, 1))
        self.same(
            whole_run(picks=(0,), row=(0, 1), manner="plain", window=1, laying=TWO, book=BITS), ((0, 1), 6, 1),
        )

    def test_nothing_to_say(self):
        self.same(whole_run(BITS, TWO, None, "plain", (), (7,)), ((), 0, 0))
        self.same(whole_run(((),), (0, ((0, ()),)), 1, "sooner", (), (0, 1)), ((), 0, 0))

    def test_against_the_plain_way(self):
        source = Source(92)
        ahead = set()
        for k in range(250):
            book = source.book(4, 3)
            laying = carrying(source.laying(book, 1 + source.below(3), 1 + source.below(6), 2))
            manner = ("plain", "sooner")[source.below(2)]
            window = 1 + source.below(3) if manner == "sooner" else (None, 1, 2, 9)[source.below(4)]
            row = drawn_row(source, book, source.below(12))
            picks = tuple(source.below(50) for _ in range(1 + source.below(9)))
            found = whole_run(book, laying, window, manner, row, picks)
            self.same(found, plain_run(book, laying, window, manner, row, picks))
            ahead.add(found[2])
        self.assertGreater(len(ahead), 5)

    def test_the_order_of_the_deeds(self):
        book = (((0, 0),),)
        laying = simple(book, 3, (((1, 1, 1),),))
        # The first deed each time: a message is said as long as one may be, then wire 0 ahead of the others.
        self.same(whole_run(book, laying, 3, "plain", (0,) * 4, (0,)), ((0,) * 4, 20, 3))
        # The last deed each time: an answer as soon as there is one.
        self.same(whole_run(book, laying, 3, "plain", (0,) * 4, (10 ** 50 + 11,))[:2], ((0,) * 4, 20))
        self.same(whole_run(book, laying, None, "plain", (0,) * 4, (0,)), ((0,) * 4, 16, 4))
        # A pick of 3 takes the fourth of four deeds, which is to say, and the wires 0 to 2, and no answer yet.
        self.same(whole_run(book, laying, 3, "plain", (0, 0), (0, 3, 2, 1, 0, 3)), plain_run(
            book, laying, 3, "plain", (0, 0), (0, 3, 2, 1, 0, 3)))

    def test_right_layings(self):
        source = Source(93)
        for k in range(100):
            free = source.below(2)
            book = downward(source) if free else source.book(4, 3)
            window = None if free else 1 + source.below(3)
            if least_wires(book, window) == 0:
                continue
            laying = make(book, window)
            row = drawn_row(source, book, 12)
            pulses = sum(lot_of(book, laying, row))
            if pulses > 2000:
                continue
            picks = tuple(source.below(10 ** 6) for _ in range(1 + source.below(200)))
            for manner in ("plain",) if free else ("plain", "sooner"):
                told, done, most = whole_run(book, laying, window, manner, row, picks)
                self.same(told, row)
                self.same(done, pulses + len(row) * (1 if free else 2))
                self.assertLessEqual(most, len(row) if free else window)

    def test_the_greatest_number_ahead(self):
        # The whole row is said at once where the window lets it.
        for window, most in ((None, 60), (1, 1), (7, 7), (59, 59), (60, 60), (61, 60), (10 ** 30, 60)):
            told, done, found = whole_run(ONE, PULSE, window, "plain", (4,) * 60, (0,))
            self.same((told, done, found), ((4,) * 60, 120 if window is None else 180, most))
        # One pulse is heard, and its answer comes, before the next message.
        self.same(whole_run(ONE, PULSE, 60, "plain", (4,) * 60, (1,))[2], 1)

    def test_layings_that_are_not_right(self):
        wrong = simple(BITS, 1, (((2,), (1,)),))
        # 0 is heard as 1 1, and two answers come for it: from then on the sender is below what is answered.
        told, done, most = whole_run(BITS, wrong, 1, "plain", (0, 0), (2, 1, 1))
        self.same((told, done, most), plain_run(BITS, wrong, 1, "plain", (0, 0), (2, 1, 1)))
        self.same((told, done), ((1, 1, 1, 1), 10))
        # The sooner hearer never tells which of both it was, and the run ends with the second one unsaid.
        self.same(whole_run(BITS, simple(BITS, 1, (((1,), (1,)),)), 1, "sooner", (0, 1), (5,)), ((), 2, 1))

    def test_sixty_messages_and_sixty_one(self):
        self.same(whole_run(ONE, PULSE, 1, "plain", (4,) * 60, (3, 1)), ((4,) * 60, 180, 1))
        self.refuses(TooMany, 61, whole_run, ONE, PULSE, 1, "plain", (4,) * 61, (0,))
        self.refuses(TooMany, 20000, whole_run, ONE, PULSE, 1, "plain", (4,) * 20000, (0,))
        self.refuses(BadRow, -1, whole_run, ONE, PULSE, 1, "plain", (4,) * 20001, (0,))

    def test_two_thousand_pulses_and_one_more(self):
        for lots, many in (((1000, 1000), 2000), ((2000, 0), 2000), ((0, 1), 1), ((2000, 1), 2001), ((0, 2001), 2001)):
            laying = simple(ONE, 2, ((lots,),))
            if many > 2000:
                self.refuses(TooMany, many, whole_run, ONE, laying, None, "plain", (4,), (0, 1))
            else:
                self.same(whole_run(ONE, laying, None, "plain", (4,), (0, 1)), ((4,), many + 1, 1))
        self.refuses(TooMany, 2100, whole_run, ONE, simple(ONE, 1, (((35,),),)), 1, "plain", (4,) * 60, (0,))
        self.same(whole_run(ONE, simple(ONE, 1, (((33,),),)), 1, "plain", (4,) * 60, (0,))[1], 33 * 60 + 120)
        great = 10 ** 60
        self.refuses(TooMany, great, whole_run, ONE, simple(ONE, 1, (((great,),),)), 1, "plain", (4,), (0,))
        # The messages are counted ahead of the pulses.
        self.refuses(TooMany, 61, whole_run, ONE, simple(ONE, 1, (((great,),),)), 1, "plain", (4,) * 61, (0,))

    def test_picks(self):
        row = (0, 1, 1, 0)
        for picks in ((0,), (10 ** 400,), (0,) * 200, tuple(range(200)), (1, 0, 10 ** 90)):
            self.same(whole_run(BITS, TWO, 1, "plain", row, picks), (row, 12, 1))
        for picks in ((), (0,) * 201, [0], None, 0, True, "0", nested(3, 0)):
            self.refuses(BadPicks, -1, whole_run, BITS, TWO, 1, "plain", row, picks)
        for pick in (-1, True, False, None, "0", "", (0,), [], -(10 ** 50), nested(18, 1)):
            self.refuses(BadPicks, 0, whole_run, BITS, TWO, 1, "plain", row, (pick,))
            self.refuses(BadPicks, 199, whole_run, BITS, TWO, 1, "plain", row, (3,) * 199 + (pick,))
            self.refuses(BadPicks, 1, whole_run, BITS, TWO, 1, "plain", row, (3, pick, None))

    def test_two_thousand_places(self):
        for window, manner in ((6, "sooner"), (1000, "plain"), (None, "plain")):
            row = (0,) * 50
            told, done, most = whole_run(ENDING, turns(1000), window, manner, row, (0, 1, 2))
            self.same((told, done), (row, 100 if window is None else 150))

    def test_what_is_checked_first(self):
        self.refuses(BadBook, -1, whole_run, None, None, 0, "x", None, None)
        self.refuses(BadLaying, -1, whole_run, BITS, None, 0, "x", None, None)
        self.refuses(Nought, 1, whole_run, ENDING, ZERO, 0, "x", None, None)
        self.refuses(BadWindow, 0, whole_run, BITS, TWO, 0, "x", None, None)
        self.refuses(BadManner, "x", whole_run, BITS, TWO, 1, "x", None, None)
        self.refuses(BadManner, "sooner", whole_run, BITS, TWO, None, "sooner", None, None)
        self.refuses(BadRow, -1, whole_run, BITS, TWO, 1, "plain", None, None)
        self.refuses(BadRow, 1, whole_run, BITS, TWO, 1, "plain", (0, 2) * 60, ())
        self.refuses(BadPicks, -1, whole_run, BITS, TWO, 1, "plain", (0,) * 61, ())
        self.refuses(BadPicks, 0, whole_run, BITS, TWO, 1, "plain", (0,) * 61, (-1,))
        self.refuses(TooMany, 61, whole_run, BITS, TWO, 1, "plain", (0,) * 61, (0,))

    def test_odd_rows(self):
        for thing in ODD:
            with self.assertRaises(BadRow):
                whole_run(((),), (0, ((0, ()),)), 1, "plain", thing, (0,))


if __name__ == "__main__":
    unittest.main()

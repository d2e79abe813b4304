"""[11], [11.1] to [11.5] and neverfour.worlds."""

import unittest

from neverfour.errors import (
    BadBook, BadLaying, BadManner, BadWindow, BadWire, Full, NoAnswer, NoMessage, NoPulse, Nought, Refused, Stray,
    Waits,
)
from neverfour.judge import right
from neverfour.layings import simple
from neverfour.least import least_wires
from neverfour.makers import make
from neverfour.worlds import World

from tests.case import ENDING, NO_SMALL_NUMBER, ODD, Case, Source, carrying, nested, turns
from tests.test_freewires import downward
from tests.test_readers import TURN, ZERO

BITS = (((0, 0), (1, 0)),)
TWO = (2, ((0, ((0, (1, 0)), (0, (0, 1)))),))
FORK = (((0, 1), (1, 1)), ())
SLOW = (2, ((0, ((1, (2, 0)), (1, (0, 2)))), (1, ())))
ONE = (((4, 0),),)
PULSE = (1, ((0, ((0, (1,)),)),))
# Eight states with five messages each.
FULL = tuple(tuple((m, (s * (m + 2) + m + 1) % 8) for m in range(5)) for s in range(8))


def plain_steps(book, laying, row):
    """The place to which the row comes, and its lot, message by message."""
    place, total = 0, (0,) * laying[0]
    for message in row:
        to, lot = dict(zip([m for m, _ in book[laying[1][place][0]]], laying[1][place][1]))[message]
        place, total = to, tuple(x + y for x, y in zip(total, lot))
    return place, total


def below(one, two):
    """Whether no number of the first lot is above that of the second one."""
    return all(x <= y for x, y in zip(one, two))


def plain_ways(book, laying, place, many):
    """The sum of each way of at most so many messages from the place, with the first message, None if there is none."""
    out = [(None, (0,) * laying[0])]
    if many > 0:
        for (message, _), (to, lot) in zip(book[laying[1][place][0]], laying[1][place][1]):
            for _, more in plain_ways(book, laying, to, many - 1):
                out.append((message, tuple(x + y for x, y in zip(lot, more))))
    return out


class PlainWorld:
    """A world by the words of [11.1] and [11.2]. A deed returns what it tells, or the error's class and its what."""

    def __init__(self, book, laying, window, manner):
        self.case = (book, laying, window)
        self.manner = manner
        self.said, self.told = (), ()
        self.counts, self.away = [0] * laying[0], [0] * laying[0]
        self.owed = self.answered = 0

    def say(self, message):
        book, laying, window = self.case
        place, _ = plain_steps(book, laying, self.said)
        if message not in [m for m, _ in book[laying[1][place][0]]]:
            return NoMessage, message
        if window is not None and len(self.said) - self.answered >= window:
            return Waits, 0
        _, before = plain_steps(book, laying, self.said)
        self.said += (message,)
        _, behind = plain_steps(book, laying, self.said)
        self.away = [n + y - x for n, x, y in zip(self.away, before, behind)]
        return None

    def come(self, wire):
        if not 0 <= wire < len(self.away):
            return BadWire, wire
        if self.away[wire] == 0:
            return NoPulse, wire
        self.away[wire] -= 1
        self.counts[wire] += 1
        done = len(self.told)
        while self.tells():
            if self.case[2] is not None:
                self.owed += 1
        return self.told[done:]

    def tells(self):
        book, laying, window = self.case
        place, total = plain_steps(book, laying, self.told)
        if self.manner == "plain":
            due = [first for first, lot in plain_ways(book, laying, place, 1)[1:]
                   if below([x + y for x, y in zip(total, lot)], self.counts)][:1]
        elif below(self.counts, total):
            return False
        else:
            due = {first for first, lot in plain_ways(book, laying, place, window)[1:]
                   if below(self.counts, [x + y for x, y in zip(total, lot)])}
        if len(due) != 1:
            return False
        self.told += tuple(due)
        return True

    def answer(self):
        if self.owed == 0:
            return NoAnswer, 0
        self.owed -= 1
        self.answered += 1
        return None

    def seen(self):
        good = self.said[:len(self.told)] == self.told
        still = not any(self.away) and self.owed == 0
        return (self.said, self.told, tuple(self.counts), tuple(self.away), self.owed, self.answered, good, still)


def seen(world):
    """All that can be seen of a world."""
    return (
        world.said(), world.told(), world.counts(), world.away(), world.owed(), world.answered(), world.good(),
        world.still(),
    )


def deeds_of(book, world, window, most=2000):
    """All deeds that a world lets, as the name of a method and its arguments."""
    state = 0
    for message in world.said():
        state = dict(book[state])[message]
    deeds = []
    if (window is None or len(world.said()) - world.answered() < window) and len(world.said()) < most:
        deeds.extend(("say", m) for m, _ in book[state])
    deeds.extend(("come", wire) for wire, number in enumerate(world.away()) if number)
    if world.owed():
        deeds.append(("answer",))
    return deeds


def done(world, deed):
    """What the deed returns, or the class and the what of its error."""
    try:
        return getattr(world, deed[0])(*deed[1:])
    except Refused as refusal:
        return type(refusal), refusal.what


def drawn_deed(source, book, laying, deeds):
    """Mostly one of the deeds that are let, else any deed."""
    if deeds and source.below(5):
        return deeds[source.below(len(deeds))]
    k = source.below(3)
    return ("say", source.below(7)) if k == 0 else ("come", source.below(laying[0] + 2) - 1) if k == 1 else ("answer",)


class Examples(Case):

    def test_examples(self):
        world = World(BITS, TWO, 1, "plain")
        self.assertIsNone(world.say(0))
        self.same((world.away(), world.still()), ((1, 0), False))
        self.same(world.come(0), (0,))
        self.same((world.owed(), world.answered()), (1, 0))
        self.refuses(Waits, 0, world.say, 1)
        self.assertIsNone(world.answer())
        self.assertIsNone(world.say(1))
        self.same((world.come(1), world.said(), world.told(), world.good()), ((1,), (0, 1), (0, 1), True))
        wrong = World(BITS, TWO, 2, "plain")
        wrong.say(1)
        wrong.say(0)
        self.same((wrong.come(0), wrong.good()), ((0,), False))
        soon = World(FORK, SLOW, 1, "sooner")
        soon.say(1)
        self.same((soon.come(1), soon.away(), soon.told()), ((1,), (0, 1), (1,)))

    def test_a_new_world(self):
        for wires in range(1, 7):
            lot = (2,) * wires
            for window, manner in ((None, "plain"), (1, "plain"), (10 ** 50, "plain"), (1, "sooner"), (6, "sooner")):
                world = World(BITS, simple(BITS, wires, ((lot, lot),)), window, manner)
                self.same(seen(world), ((), (), (0,) * wires, (0,) * wires, 0, 0, True, True))
        for manner in ("plain", "sooner"):
            world = World(((),), (0, ((0, ()),)), 3, manner)
            self.same(seen(world), ((), (), (), (), 0, 0, True, True))
            self.refuses(NoMessage, 0, world.say, 0)
            self.refuses(BadWire, 0, world.come, 0)
            self.refuses(NoAnswer, 0, world.answer)

    def test_by_the_names_of_the_interface(self):
        world = World(manner="sooner", window=1, laying=SLOW, book=FORK)
        world.say(message=0)
        self.same(world.come(wire=0), (0,))

    def test_what_is_returned_is_fresh(self):
        world = World(BITS, TWO, None, "plain")
        before = seen(world)
        world.say(0)
        world.come(0)
        self.same(before, ((), (), (0, 0), (0, 0), 0, 0, True, True))
        self.same(seen(world), ((0,), (0,), (1, 0), (0, 0), 0, 0, True, True))


class AgainstThePlainWay(Case):

    def play(self, source, book, laying, window, manner, many):
        world, plain = World(book, laying, window, manner), PlainWorld(book, laying, window, manner)
        for _ in range(many):
            deed = drawn_deed(source, book, laying, deeds_of(book, world, window))
            self.same(done(world, deed), getattr(plain, deed[0])(*deed[1:]))
            self.same(seen(world), plain.seen())
        return world

    def test_plain(self):
        source = Source(81)
        bad = 0
        for k in range(150):
            book = source.book(4, 3)
            laying = carrying(source.laying(book, 1 + source.below(4), 1 + source.below(7), 1 + source.below(3)))
            window = (None, 1, 2, 3, 7, 10 ** 40)[source.below(6)]
            bad += not self.play(source, book, laying, window, "plain", 40).good()
        self.assertGreater(bad, 20)

    def test_sooner(self):
        source = Source(82)
        told, bad, soon = 0, 0, 0
        for k in range(250):
            book = source.book(4, 3)
            laying = carrying(source.laying(book, 1 + source.below(4), 1 + source.below(7), 1 + source.below(3)))
            world = self.play(source, book, laying, 1 + source.below(4), "sooner", 30)
            told += len(world.told()) > 1
            bad += not world.good()
            soon += any(x > y for x, y in zip(plain_steps(book, laying, world.told())[1], world.counts()))
        self.assertGreater(told, 50)
        # What was said is always one of the rows that a sooner hearer looks at, however the laying is.
        self.assertEqual(bad, 0)
        self.assertGreater(soon, 20)

    def test_sooner_windows_to_six(self):
        source = Source(83)
        for window in range(1, 7):
            for laying in (TURN, turns(4), turns(7)):
                self.play(source, ENDING, laying, window, "sooner", 40)
            book = source.book(3, 2)
            self.play(source, book, carrying(source.laying(book, 3, 5, 2)), window, "sooner", 25)

    def test_sooner_where_a_message_follows_of_need(self):
        # Both messages lead to states with one message; what was said first is known before its own pulse comes.
        book = (((0, 1), (1, 2)), ((2, 0),), ((3, 0),))
        laying = simple(book, 3, (((1, 0, 0), (1, 0, 0)), ((0, 1, 0),), ((0, 0, 1),)))
        world = World(book, laying, 2, "sooner")
        world.say(1)
        world.say(3)
        self.same(world.come(0), ())
        self.same(world.come(2), (1, 3))
        world = World(book, laying, 2, "sooner")
        world.say(0)
        world.say(2)
        self.same((world.come(1), world.counts(), world.good()), ((0, 2), (0, 1, 0), True))
        # The first message is told once the pulse of the second one needs it, and its own one tells nothing then.
        self.same((world.owed(), world.come(0), world.still()), (2, (), False))

    def test_sooner_stops_where_two_are_let_or_none_is(self):
        world = World(BITS, simple(BITS, 2, (((2, 1), (2, 3)),)), 1, "sooner")
        world.say(0)
        self.same((world.come(0), world.come(1), world.come(0), world.told()), ((), (), (), ()))
        self.same(world.good(), True)
        wide = World(BITS, simple(BITS, 2, (((1, 0), (0, 1)),)), 2, "sooner")
        wide.say(0)
        wide.say(1)
        self.same((wide.come(0), wide.come(1), wide.told(), wide.owed()), ((), (), (), 0))
        self.refuses(Waits, 0, wide.say, 0)


class RightLayings(Case):

    def watch(self, source, book, laying, window, many):
        """Drawn deeds in worlds of each manner; those of the plain one are done in the other one, too."""
        worlds = [World(book, laying, window, "plain")]
        if window is not None and window < 7:
            worlds.append(World(book, laying, window, "sooner"))
        for k in range(many):
            deeds = deeds_of(book, worlds[0], window)
            if k > many // 2:
                deeds = [deed for deed in deeds if deed[0] != "say"]
            if not deeds:
                break
            deed = deeds[source.below(len(deeds))]
            for world in worlds:
                getattr(world, deed[0])(*deed[1:])
                self.assertTrue(world.good())
                if not any(world.away()):
                    self.same(world.told(), world.said())
            self.same(worlds[-1].told()[:len(worlds[0].told())], worlds[0].told())
        return worlds

    def test_made_layings(self):
        source = Source(84)
        rested = 0
        for k in range(120):
            window = 1 + source.below(3)
            book = source.book(4, 3)
            laying = make(book, window)
            worlds = self.watch(source, book, laying, window, 200)
            rested += worlds[0].still() and len(worlds[0].said()) > 1
        self.assertGreater(rested, 20)

    def test_great_windows(self):
        source = Source(85)
        for window in (2, 3, 5, 6, 8, 9):
            laying = turns(window)
            self.watch(source, ENDING, laying, window, 400)

    def test_without_answers(self):
        source = Source(86)
        played = 0
        for k in range(60):
            book = downward(source)
            if least_wires(book, None):
                worlds = self.watch(source, book, make(book, None), None, 200)
                self.same((worlds[0].owed(), worlds[0].answered()), (0, 0))
                self.watch(source, book, make(book, None), 10 ** 30, 100)
                played += 1
        self.assertGreater(played, 30)

    def test_drawn_layings_that_are_right(self):
        source = Source(87)
        found = 0
        while found < 60:
            book = source.book(3, 2)
            window = (1, 2, 3, None)[source.below(4)]
            laying = carrying(source.laying(book, 1 + source.below(3), 1 + source.below(6), 2))
            if right(book, laying, window):
                found += 1
                self.watch(source, book, laying, window, 120)


class WrongLayings(Case):

    def test_more_is_told_than_said(self):
        world = World(BITS, simple(BITS, 1, (((2,), (1,)),)), 1, "plain")
        world.say(0)
        self.same((world.come(0), world.come(0)), ((1,), (1,)))
        self.same(seen(world), ((0,), (1, 1), (2,), (0,), 2, 0, False, False))
        world.answer()
        world.answer()
        # Two answers came for one message, so two more messages may be said.
        self.same((world.answered(), world.still()), (2, True))
        world.say(0)
        world.say(0)
        self.refuses(Waits, 0, world.say, 0)
        self.same(world.away(), (4,))

    def test_what_was_wrong_may_become_good(self):
        # 1 is told though nothing but 0 is said; when 1 is said in its place, nothing of it can be heard.
        world = World(BITS, TWO, None, "plain")
        world.say(1)
        world.say(0)
        self.same((world.come(0), world.good()), ((0,), False))
        self.same((world.come(1), world.told(), world.still(), world.good()), ((1,), (0, 1), True, False))
        ahead = World(ONE, (1, ((0, ((1, (2,)),)), (0, ((1, (1,)),)))), None, "plain")
        ahead.say(4)
        self.same((ahead.come(0), ahead.come(0), ahead.good()), ((), (4,), True))

    def test_the_row_told_may_be_any_row_of_the_book(self):
        book = (((0, 1), (1, 2)), ((2, 1),), ((3, 2),))
        world = World(book, simple(book, 1, (((5,), (1,)), ((1,),), ((1,),))), 2, "plain")
        world.say(0)
        world.say(2)
        for _ in range(6):
            world.come(0)
        self.same((world.told(), world.good(), world.still()), ((1, 3, 3, 3, 3, 3), False, False))
        self.same(len(world.said()), 2)

    def test_lots_of_zeros_where_no_row_comes(self):
        laying = (1, ((0, ((0, (1,)), (3, (2,)))),) + ZERO[1][1:])
        world = World(ENDING, laying, None, "plain")
        world.say(0)
        self.same(world.come(0), (0,))


class Bounds(Case):

    def test_the_2000th_message_without_answers(self):
        world = World(ONE, PULSE, None, "plain")
        for _ in range(2000):
            world.say(4)
        self.refuses(NoMessage, 5, world.say, 5)
        self.refuses(Full, 2000, world.say, 4)
        self.same((world.said(), world.away()), ((4,) * 2000, (2000,)))
        for _ in range(2000):
            world.come(0)
        self.same((world.told(), world.owed(), world.good(), world.still()), ((4,) * 2000, 0, True, True))
        self.refuses(Full, 2000, world.say, 4)

    def test_the_2000th_message_with_a_window(self):
        for window, manner in ((1, "plain"), (1, "sooner"), (6, "sooner"), (10 ** 30, "plain")):
            world = World(ONE, PULSE, window, manner)
            for k in range(2000):
                world.say(4)
                if k < 1999:
                    world.come(0)
                    world.answer()
            self.refuses(NoMessage, True, world.say, True)
            if window == 1:
                self.refuses(Waits, 0, world.say, 4)
                world.come(0)
                world.answer()
            self.refuses(Full, 2000, world.say, 4)
            self.same((len(world.said()), world.answered()), (2000, 2000 if window == 1 else 1999))

    def test_windows(self):
        for window in (1, 2, 3, 6, 7, 2000):
            world = World(ONE, PULSE, window, "plain")
            for _ in range(window):
                world.say(4)
            self.refuses(Waits, 0, world.say, 4)
            self.refuses(NoMessage, 3, world.say, 3)
            world.come(0)
            self.refuses(Waits, 0, world.say, 4)
            world.answer()
            if window < 2000:
                world.say(4)
                self.refuses(Waits, 0, world.say, 4)
            else:
                self.refuses(Full, 2000, world.say, 4)

    def test_sooner_looks_as_far_as_the_window(self):
        # The pulses of the wire 1 come with the fifth message behind 0, and with none behind 1.
        book = (((0, 1), (1, 2)), ((0, 1),), ((0, 2),))
        places = [(0, ((1, (1, 0)), (6, (1, 0))))]
        places += [(1, ((min(p + 1, 5), (1, 1 if p == 5 else 0)),)) for p in range(1, 6)]
        places += [(2, ((6, (1, 0)),))]
        laying = (2, tuple(places))
        for window in range(1, 7):
            world = World(book, laying, window, "sooner")
            world.say(0)
            self.same(world.come(0), ())
        world = World(book, laying, 6, "sooner")
        for _ in range(6):
            world.say(0)
        self.same(world.come(1), (0, 0, 0, 0, 0, 0))
        self.same(world.come(0), ())
        self.same((world.good(), world.away()), (True, (5, 0)))

    def test_great_lots(self):
        great = 10 ** 50
        laying = simple(BITS, 2, (((great, 1), (great, great)),))
        for manner in ("plain", "sooner"):
            world = World(BITS, laying, 1, manner)
            world.say(0)
            self.same((world.away(), world.still()), ((great, 1), False))
            self.same((world.come(1), world.come(0), world.counts()), ((), (), (1, 1)))
            self.same(world.away(), (great - 1, 0))
            self.refuses(NoPulse, 1, world.come, 1)

    def test_books_and_layings_at_the_bounds(self):
        source = Source(88)
        for wires in (1, 3, 6):
            places = 2000 if wires == 6 else 60
            laying = carrying(source.laying(FULL, wires, places, 3))
            for window, manner in ((None, "plain"), (6, "plain"), (6, "sooner"), (1, "sooner")):
                world = World(FULL, laying, window, manner)
                for _ in range(1500):
                    deeds = deeds_of(FULL, world, window)
                    if not deeds:
                        break
                    deed = deeds[source.below(len(deeds))]
                    getattr(world, deed[0])(*deed[1:])

    def test_two_thousand_places(self):
        laying = turns(1000)
        self.assertEqual(len(laying[1]), 1999)
        for window, manner in ((1000, "plain"), (6, "sooner"), (None, "plain")):
            world = World(ENDING, laying, window, manner)
            for _ in range(1999):
                world.say(0)
                world.come([wire for wire in (0, 1) if world.away()[wire]][0])
                if window is not None:
                    world.answer()
            world.say(1)
            while not world.still():
                for wire in (0, 1):
                    if world.away()[wire]:
                        world.come(wire)
                if world.owed():
                    world.answer()
            self.same((world.told(), world.good()), ((0,) * 1999 + (1,), True))

    def test_long_tellings(self):
        # The first message is heard late, and with it all that was said behind it.
        laying = (2, ((0, ((1, (0, 1)),)), (0, ((1, (1, 0)),))))
        world = World(ONE, laying, None, "plain")
        for _ in range(2000):
            world.say(4)
        for _ in range(1999):
            self.assertEqual(world.come(0), ())
        self.same(world.come(1), (4,) * 2000)


class Errors(Case):

    def test_what_is_checked_first(self):
        self.refuses(BadBook, -1, World, None, None, None, None)
        self.refuses(Stray, 1, World, ((), ()), None, 0, "x")
        self.refuses(BadLaying, -1, World, BITS, None, 0, "x")
        self.refuses(BadLaying, 3, World, ENDING, (1, ZERO[1][:3] + ((1, 0),)), 0, "x")
        self.refuses(Nought, 1, World, ENDING, ZERO, 0, "x")
        self.refuses(Nought, 0, World, BITS, (0, ((0, ((0, ()), (0, ()))),)), True, "sooner")
        self.refuses(BadWindow, 0, World, BITS, TWO, 0, "x")
        self.refuses(BadManner, "x", World, BITS, TWO, 1, "x")

    def test_the_first_place_with_a_lot_of_zeros(self):
        turned = (1, ((0, ((2, (1,)), (1, (1,)))), (0, ((0, (0,)), (0, (1,)))), (0, ((0, (0,)), (0, (1,))))))
        self.refuses(Nought, 2, World, BITS, turned, 1, "plain")

    def test_windows(self):
        for window in (0, -1, True, False, "1", (1,), [1], "", nested(20, 1), -(10 ** 50)):
            for manner in ("plain", "sooner", None):
                self.refuses(BadWindow, 0, World, BITS, TWO, window, manner)

    def test_manners(self):
        for manner in ODD + ("Plain", "plain ", "later", ("plain",), ["plain"], "sooner"):
            for window in (None, 7, 8, 10 ** 30):
                self.refuses(BadManner, manner, World, BITS, TWO, window, manner)
            if manner != "sooner":
                self.refuses(BadManner, manner, World, BITS, TWO, 3, manner)

    def test_what_is_told_of_the_manner_is_the_very_thing(self):
        thing = ["sooner"]
        with self.assertRaises(BadManner) as caught:
            World(BITS, TWO, 1, thing)
        self.assertIs(caught.exception.what, thing)

    def test_odd_books_and_layings(self):
        for thing in ODD:
            with self.assertRaises(BadLaying):
                World(BITS, thing, 1, "plain")
            if thing != ((),):
                with self.assertRaises(Refused):
                    World(thing, TWO, 1, "plain")

    def test_a_refused_call_changes_nothing(self):
        for manner in ("plain", "sooner"):
            world = World(ENDING, TURN, 2, manner)
            world.say(0)
            before = seen(world)
            self.refuses(NoAnswer, 0, world.answer)
            self.refuses(NoPulse, 1, world.come, 1)
            for thing in ODD + NO_SMALL_NUMBER + (2, 3, 99, 100):
                if not (type(thing) is int and thing in (0, 1)):
                    self.refuses(NoMessage, thing, world.say, thing)
                    self.refuses(BadWire, thing, world.come, thing)
                    self.same(seen(world), before)
            world.say(1)
            before = seen(world)
            for message in (0, 1):
                # Behind 1 the book lets nothing, and it waits, too.
                self.refuses(NoMessage, message, world.say, message)
            self.same(seen(world), before)
            while not world.still():
                for wire in (0, 1):
                    if world.away()[wire]:
                        world.come(wire)
                while world.owed():
                    world.answer()
            self.same((world.said(), world.told(), world.answered()), ((0, 1), (0, 1), 2))

    def test_a_world_without_answers_gets_none(self):
        world = World(BITS, TWO, None, "plain")
        for _ in range(5):
            world.say(1)
            world.come(1)
            self.refuses(NoAnswer, 0, world.answer)
        self.same((world.owed(), world.answered(), world.still()), (0, 0, True))


if __name__ == "__main__":
    unittest.main()

"""[12.5], [12.6] and neverfour.trees."""

import unittest

from neverfour.errors import (
    BadBook, BadHouse, BadLaying, BadTree, BadWindow, BadWire, Full, NoAnswer, NoMessage, NoPulse, NothingToSend,
    Nought, Refused, Stray, Waits,
)
from neverfour.layings import simple
from neverfour.makers import make
from neverfour.trees import Tree
from neverfour.worlds import World

from tests.case import ENDING, NO_SMALL_NUMBER, ODD, Case, Source, carrying, nested, turns
from tests.test_freewires import downward
from tests.test_readers import TURN, ZERO
from tests.test_worlds import BITS, FULL, ONE, PULSE, TWO, PlainWorld

NONE = (0, ((0, ()),))


def seen(tree, houses):
    """All that can be seen of a tree."""
    links = range(1, houses)
    return (
        tuple(tree.row(h) for h in range(houses)), tuple(tree.owed(h) for h in links),
        tuple(tree.away(h) for h in links), tree.good(), tree.still(),
    )


class PlainTree:
    """A tree by the words of [12.5]: each link is a plain world, in which just what was sent is said."""

    def __init__(self, book, parents, layings, windows):
        self.book = book
        self.elders = (None,) + parents
        self.links = [None] + [PlainWorld(book, laying, w, "plain") for laying, w in zip(layings, windows)]
        self.root = ()

    def row(self, house):
        return self.links[house].told if house else self.root

    def messages(self):
        state = 0
        for message in self.root:
            state = dict(self.book[state])[message]
        return [m for m, _ in self.book[state]]

    def say(self, message):
        if message not in self.messages():
            return NoMessage, message
        self.root += (message,)
        return None

    def send(self, house):
        if not 1 <= house < len(self.links):
            return BadHouse, house
        link = self.links[house]
        elder = self.row(self.elders[house])
        if len(link.said) == len(elder):
            return NothingToSend, house
        told = link.say(elder[len(link.said)])
        return told and (Waits, house)

    def come(self, house, wire):
        if not 1 <= house < len(self.links):
            return BadHouse, house
        return self.links[house].come(wire)

    def answer(self, house):
        if not 1 <= house < len(self.links):
            return BadHouse, house
        told = self.links[house].answer()
        return told and (NoAnswer, house)

    def waits(self, house):
        link = self.links[house]
        return link.case[2] is not None and len(link.said) - link.answered >= link.case[2]

    def seen(self):
        houses = range(1, len(self.links))
        elders = {h: self.row(self.elders[h]) for h in houses}
        good = all(elders[h][:len(self.row(h))] == self.row(h) for h in houses)
        still = all(not any(self.links[h].away) and self.links[h].owed == 0 for h in houses) and all(
            len(self.links[h].said) == len(elders[h]) or self.waits(h) for h in houses)
        return (
            tuple(self.row(h) for h in range(len(self.links))), tuple(self.links[h].owed for h in houses),
            tuple(tuple(self.links[h].away) for h in houses), good, still,
        )


def done(tree, deed):
    """What the deed returns, or the class and the what of its error."""
    try:
        return getattr(tree, deed[0])(*deed[1:])
    except Refused as refusal:
        return type(refusal), refusal.what


def drawn_tree(source, many):
    """The parents of so many houses."""
    return tuple(source.below(h) for h in range(1, many + 1))


class Examples(Case):

    def test_example(self):
        tree = Tree(BITS, (0, 1), (TWO, TWO), (1, 1))
        self.assertIsNone(tree.say(1))
        self.assertIsNone(tree.send(1))
        self.same((tree.away(1), tree.row(1), tree.still()), ((0, 1), (), False))
        self.same(tree.come(1, 1), (1,))
        tree.send(2)
        self.same(tree.come(2, 1), (1,))
        self.same((tree.row(2), tree.owed(1), tree.owed(2), tree.still()), ((1,), 1, 1, False))
        self.assertIsNone(tree.answer(1))
        tree.answer(2)
        self.same(tree.still(), True)
        self.refuses(NothingToSend, 2, tree.send, 2)
        self.refuses(NoPulse, 0, tree.come, 2, 0)
        self.refuses(NoAnswer, 1, tree.answer, 1)

    def test_by_the_names_of_the_interface(self):
        tree = Tree(windows=(1,), layings=(TWO,), parents=(0,), book=BITS)
        tree.say(message=0)
        tree.send(house=1)
        self.same(tree.come(wire=0, house=1), (0,))
        self.same((tree.row(house=1), tree.owed(house=1), tree.away(house=1)), ((0,), 1, (0, 0)))
        tree.answer(house=1)
        self.same(tree.owed(1), 0)

    def test_a_new_tree(self):
        for many in range(1, 8):
            tree = Tree(BITS, (0,) * many, (TWO,) * many, (1,) * many)
            self.same(seen(tree, many + 1), (((),) * (many + 1), (0,) * many, ((0, 0),) * many, True, True))
        tree = Tree(((),), (0, 0, 2), (NONE,) * 3, (None, 1, 10 ** 30))
        self.same(seen(tree, 4), (((),) * 4, (0,) * 3, ((),) * 3, True, True))
        self.refuses(NoMessage, 0, tree.say, 0)
        self.refuses(NothingToSend, 3, tree.send, 3)
        self.refuses(BadWire, 0, tree.come, 1, 0)

    def test_what_is_returned_is_fresh(self):
        tree = Tree(BITS, (0,), (TWO,), (None,))
        before = seen(tree, 2)
        tree.say(0)
        tree.send(1)
        self.same(before, (((), ()), (0,), ((0, 0),), True, True))


class AgainstThePlainWay(Case):

    def play(self, source, tree, plain, wires, many):
        houses = len(plain.links)
        for _ in range(many):
            house = source.below(houses + 2) - (source.below(9) == 0)
            k = source.below(9)
            if k < 2:
                deed = ("say", source.below(5))
            elif k < 4:
                deed = ("send", house)
            elif k < 8:
                deed = ("come", house, source.below(wires + 1) - (source.below(9) == 0))
            else:
                deed = ("answer", house)
            self.same(done(tree, deed), getattr(plain, deed[0])(*deed[1:]))
            self.same(seen(tree, houses), plain.seen())

    def test_any_layings(self):
        source = Source(95)
        bad = 0
        for k in range(80):
            book = source.book(3, 3, 5)
            many = 1 + source.below(5)
            parents = drawn_tree(source, many)
            layings = tuple(carrying(source.laying(book, 1 + source.below(3), 5, 2)) for _ in range(many))
            windows = tuple((None, 1, 2, 3, 10 ** 30)[source.below(5)] for _ in range(many))
            tree = Tree(book, parents, layings, windows)
            self.play(source, tree, PlainTree(book, parents, layings, windows), 3, 60)
            bad += not tree.good()
        self.assertGreater(bad, 5)

    def test_right_layings(self):
        source = Source(96)
        for k in range(40):
            free = source.below(2)
            book = downward(source) if free else source.book(3, 2, 5)
            many = 1 + source.below(7)
            parents = drawn_tree(source, many)
            windows = tuple(None if free else 1 + source.below(3) for _ in range(many))
            layings = tuple(make(book, window) for window in windows)
            tree = Tree(book, parents, layings, windows)
            limit = 1 + source.below(12)
            deeds = self.deeds(book, tree, many, limit)
            while deeds:
                deed = deeds[source.below(len(deeds))]
                done(tree, deed)
                self.assertTrue(tree.good())
                deeds = self.deeds(book, tree, many, limit)
            self.assertTrue(tree.still())
            for house in range(many + 1):
                self.same(tree.row(house), tree.row(0))

    def deeds(self, book, tree, many, limit):
        """All deeds that are let; the root says no more than the limit."""
        state = 0
        for message in tree.row(0):
            state = dict(book[state])[message]
        deeds = [("say", m) for m, _ in book[state]] if len(tree.row(0)) < limit else []
        for house in range(1, many + 1):
            deeds += [("come", house, wire) for wire, number in enumerate(tree.away(house)) if number]
            deeds += [("answer", house)] if tree.owed(house) else []
        # A tree that is not still has something under way or a house that can send; one that cannot refuses it.
        return deeds + ([] if tree.still() else [("send", house) for house in range(1, many + 1)])

    def test_each_link_does_what_a_world_does(self):
        source = Source(97)
        for k in range(40):
            book = source.book(3, 3, 5)
            laying = carrying(source.laying(book, 1 + source.below(3), 5, 2))
            window = (None, 1, 2, 5)[source.below(4)]
            world = World(book, laying, window, "plain")
            # The link to house 2 is the one that is played; the others have layings of their own.
            tree = Tree(book, (0, 0, 2), (laying, laying, laying), (1, window, None))
            for _ in range(60):
                wire = source.below(laying[0])
                message = source.below(5)
                if source.below(3) == 0:
                    told = done(tree, ("say", message))
                    sent = done(tree, ("send", 2)) if told is None else told
                    if sent == (Waits, 2):
                        self.same(done(world, ("say", message)), (Waits, 0))
                        break
                    self.same(done(world, ("say", message)), sent)
                elif source.below(3):
                    self.same(done(tree, ("come", 2, wire)), done(world, ("come", wire)))
                else:
                    told = done(tree, ("answer", 2))
                    self.same(done(world, ("answer",)), told and (NoAnswer, 0))
                self.same((tree.row(2), tree.owed(2), tree.away(2)), (world.told(), world.owed(), world.away()))
                self.same(tree.row(1) + tree.row(3), ())


class Links(Case):

    def test_layings_and_windows_of_their_own(self):
        layings = (TWO, simple(BITS, 1, (((1,), (2,)),)), simple(BITS, 6, (((1,) * 6, (1,) * 6),)))
        tree = Tree(BITS, (0, 0, 0), layings, (2, None, 1))
        for message in (1, 0, 0):
            tree.say(message)
        for house in (1, 1, 2, 2, 2, 3):
            tree.send(house)
        self.same((tree.away(1), tree.away(2), tree.away(3)), ((1, 1), (4,), (1,) * 6))
        self.refuses(Waits, 1, tree.send, 1)
        self.refuses(NothingToSend, 2, tree.send, 2)
        self.refuses(Waits, 3, tree.send, 3)
        self.refuses(BadWire, 2, tree.come, 1, 2)
        self.refuses(BadWire, 1, tree.come, 2, 1)
        self.same(tree.come(3, 5), ())
        self.same((tree.come(2, 0), tree.owed(2)), ((0,), 0))
        self.same((tree.row(1), tree.row(2), tree.row(3), tree.good()), ((), (0,), (), False))

    def test_what_is_sent_is_what_the_elder_was_told(self):
        # The elder hears 0 for 1, and hands on what it heard.
        tree = Tree(BITS, (0, 1), (simple(BITS, 1, (((1,), (1,)),)), TWO), (None, None))
        tree.say(1)
        tree.send(1)
        self.refuses(NothingToSend, 2, tree.send, 2)
        self.same(tree.come(1, 0), (0,))
        tree.send(2)
        self.same((tree.away(2), tree.come(2, 0)), ((1, 0), (0,)))
        self.same((tree.row(0), tree.row(1), tree.row(2), tree.good(), tree.still()), ((1,), (0,), (0,), False, True))

    def test_still(self):
        tree = Tree(BITS, (0, 0), (TWO, TWO), (1, None))
        tree.say(0)
        self.same(tree.still(), False)
        tree.send(1)
        tree.come(1, 0)
        self.same((tree.owed(1), tree.still()), (1, False))
        tree.send(2)
        tree.come(2, 0)
        self.same((tree.owed(2), tree.still()), (0, False))
        tree.answer(1)
        self.same(tree.still(), True)

    def test_still_though_a_sender_waits_for_ever(self):
        # 0 is heard as 1, behind which nothing but 2 can be told; it would need more pulses than 0 has.
        book = (((0, 0), (1, 1)), ((2, 1),))
        tree = Tree(book, (0,), (simple(book, 1, (((2,), (1,)), ((5,),))),), (1,))
        tree.say(0)
        tree.send(1)
        self.same((tree.come(1, 0), tree.still()), ((1,), False))
        self.same(tree.come(1, 0), ())
        tree.answer(1)
        tree.say(0)
        tree.send(1)
        self.same((tree.come(1, 0), tree.come(1, 0), tree.owed(1), tree.still()), ((), (), 0, True))
        tree.say(0)
        self.refuses(Waits, 1, tree.send, 1)
        self.same((tree.still(), tree.good(), tree.row(1)), (True, False, (1,)))

    def test_still_asks_of_each_link_whether_it_waits(self):
        # As above one link comes to wait for ever; the other one never waits, and is still once it has sent all.
        book = (((0, 0), (1, 1)), ((2, 1),))
        deaf = simple(book, 1, (((2,), (1,)), ((5,),)))
        good = simple(book, 3, (((1, 0, 0), (0, 1, 0)), ((0, 0, 1),)))
        for waiting, free in ((1, 2), (2, 1)):
            layings, windows = ((deaf, good), (1, None)) if free == 2 else ((good, deaf), (None, 1))
            tree = Tree(book, (0, 0), layings, windows)
            for _ in range(3):
                tree.say(0)
            for _ in range(2):
                tree.send(waiting)
                tree.come(waiting, 0)
                tree.come(waiting, 0)
                if tree.owed(waiting):
                    tree.answer(waiting)
            self.refuses(Waits, waiting, tree.send, waiting)
            for _ in range(3):
                self.same(tree.still(), False)
                tree.send(free)
                self.same(tree.still(), False)
                tree.come(free, 0)
            self.same((tree.still(), tree.row(waiting), tree.row(free)), (True, (1,), (0, 0, 0)))

    def test_without_answers_none_is_sent(self):
        tree = Tree(ONE, (0, 1), (PULSE, PULSE), (None, 3))
        for _ in range(9):
            tree.say(4)
            tree.send(1)
            tree.come(1, 0)
        self.same((tree.owed(1), tree.row(1)), (0, (4,) * 9))
        self.refuses(NoAnswer, 1, tree.answer, 1)
        for _ in range(3):
            tree.send(2)
        self.refuses(Waits, 2, tree.send, 2)
        tree.come(2, 0)
        self.refuses(Waits, 2, tree.send, 2)
        tree.answer(2)
        tree.send(2)


class Bounds(Case):

    def test_the_2000th_message(self):
        tree = Tree(ONE, (0, 1), (PULSE, PULSE), (1, None))
        for _ in range(2000):
            tree.say(4)
        self.refuses(NoMessage, 3, tree.say, 3)
        self.refuses(Full, 2000, tree.say, 4)
        for k in range(2000):
            tree.send(1)
            tree.come(1, 0)
            tree.answer(1)
            tree.send(2)
            tree.come(2, 0)
        self.same((tree.row(0), tree.row(1), tree.row(2)), ((4,) * 2000,) * 3)
        self.refuses(NothingToSend, 1, tree.send, 1)
        self.refuses(Full, 2000, tree.say, 4)
        self.same((tree.good(), tree.still()), (True, True))

    def test_seven_houses_behind_the_root(self):
        for parents in ((0,) * 7, tuple(range(7)), (0, 0, 1, 1, 2, 2, 3)):
            tree = Tree(ENDING, parents, (TURN,) * 7, (2,) * 7)
            for message in (0, 0, 0, 1):
                tree.say(message)
            for _ in range(1000):
                for house in range(1, 8):
                    for deed in (("send", house), ("come", house, 0), ("come", house, 1), ("answer", house)):
                        done(tree, deed)
                    self.assertTrue(tree.good())
                if tree.still():
                    break
            self.same([tree.row(house) for house in range(8)], [(0, 0, 0, 1)] * 8)

    def test_two_thousand_places(self):
        tree = Tree(ENDING, (0, 1, 2, 3, 4, 5, 6), (turns(1000),) * 7, (1000, 1, 6, None, 7, 2, 10 ** 9))
        for _ in range(1500):
            tree.say(0)
            for house in range(1, 8):
                tree.send(house)
                tree.come(house, [wire for wire in (0, 1) if tree.away(house)[wire]][0])
                if tree.owed(house):
                    tree.answer(house)
        self.same((tree.row(7), tree.good(), tree.still()), ((0,) * 1500, True, True))

    def test_a_great_book(self):
        source = Source(98)
        layings = tuple(carrying(source.laying(FULL, 6, 500, 2)) for _ in range(7))
        tree = Tree(FULL, tuple(range(7)), layings, (None,) * 7)
        for _ in range(300):
            done(tree, ("say", source.below(5)))
            for house in range(1, 8):
                done(tree, ("send", house))
                for wire in range(6):
                    done(tree, ("come", house, wire))
        self.same(len(tree.row(0)), 300)


class Errors(Case):

    def test_parents(self):
        for parents in ((), (0,) * 8, [0], None, True, 0, "0", nested(3, 0)):
            self.refuses(BadTree, -1, Tree, BITS, parents, None, None)
        for wrong in (1, -1, True, False, None, "0", (0,), [], 10 ** 30, nested(18, 0)):
            self.refuses(BadTree, 1, Tree, BITS, (wrong,), None, None)
            if wrong != 1 or wrong is True:
                self.refuses(BadTree, 3, Tree, BITS, (0, 1, wrong, None), None, None)
        self.refuses(BadTree, 2, Tree, BITS, (0, 2, 5), None, None)
        self.refuses(BadTree, 7, Tree, BITS, (0, 1, 2, 3, 4, 5, 7), None, None)

    def test_layings(self):
        for layings in ((), (TWO,), (TWO,) * 3, [TWO, TWO], None, 2, TWO[1]):
            self.refuses(BadTree, 0, Tree, BITS, (0, 0), layings, None)
        self.refuses(BadLaying, -1, Tree, BITS, (0, 0), (TWO, None), None)
        self.refuses(BadLaying, 0, Tree, BITS, (0, 0), ((2, (None,)), None), None)
        self.refuses(BadLaying, -1, Tree, ENDING, (0, 0), (None, ZERO), None)
        self.refuses(Nought, 1, Tree, ENDING, (0, 0), (ZERO, None), None)
        self.refuses(Nought, 1, Tree, ENDING, (0, 0), (TURN, ZERO), None)
        for thing in ODD:
            with self.assertRaises(Refused):
                Tree(BITS, (0, 1), (TWO, thing), (1, 1))
            with self.assertRaises(BadTree):
                Tree(BITS, thing, (TWO,), (1,))
            if not isinstance(thing, tuple) or len(thing) != 7:
                self.refuses(BadTree, 0, Tree, ENDING, (0,) * 7, thing, None)

    def test_windows(self):
        for windows in ((), (1,), (1, 1, 1), [1, 1], None, 1, "11"):
            self.refuses(BadTree, 0, Tree, BITS, (0, 0), (TWO, TWO), windows)
        for wrong in (0, -1, True, False, "1", (1,), [], nested(18, 1)):
            self.refuses(BadWindow, 0, Tree, BITS, (0, 0), (TWO, TWO), (None, wrong))
            self.refuses(BadWindow, 0, Tree, BITS, (0, 0), (TWO, TWO), (wrong, None))

    def test_what_is_checked_first(self):
        self.refuses(BadBook, -1, Tree, None, None, None, None)
        self.refuses(Stray, 1, Tree, ((), ()), (), None, None)
        self.refuses(BadTree, -1, Tree, BITS, (), (None,), ())
        self.refuses(BadTree, 1, Tree, BITS, (1,), (), ())
        self.refuses(BadTree, 0, Tree, BITS, (0,), (), (0,))
        self.refuses(BadLaying, -1, Tree, BITS, (0,), (None,), ())
        self.refuses(BadTree, 0, Tree, BITS, (0,), (TWO,), (0, 0))
        self.refuses(BadWindow, 0, Tree, BITS, (0,), (TWO,), (0,))

    def test_a_refused_call_changes_nothing(self):
        tree = Tree(BITS, (0, 1), (TWO, TWO), (1, 1))
        tree.say(0)
        tree.say(1)
        tree.send(1)
        before = seen(tree, 3)
        wrong = NO_SMALL_NUMBER + ODD + (3, 10 ** 50)
        for thing in wrong:
            if type(thing) is int and thing in (0, 1, 2):
                continue
            self.refuses(NoMessage, thing, tree.say, thing)
            self.refuses(BadHouse, thing, tree.send, thing)
            self.refuses(BadHouse, thing, tree.come, thing, 0)
            self.refuses(BadHouse, thing, tree.come, thing, thing)
            self.refuses(BadHouse, thing, tree.answer, thing)
            self.refuses(BadHouse, thing, tree.row, thing)
            self.refuses(BadHouse, thing, tree.owed, thing)
            self.refuses(BadHouse, thing, tree.away, thing)
            self.refuses(BadWire, thing, tree.come, 1, thing)
            self.same(seen(tree, 3), before)
        for call in (tree.send, tree.answer, tree.owed, tree.away):
            self.refuses(BadHouse, 0, call, 0)
        self.refuses(BadHouse, 0, tree.come, 0, 0)
        self.refuses(BadWire, 2, tree.come, 2, 2)
        self.refuses(NoPulse, 1, tree.come, 1, 1)
        self.refuses(NoPulse, 0, tree.come, 2, 0)
        self.refuses(NoAnswer, 2, tree.answer, 2)
        self.refuses(Waits, 1, tree.send, 1)
        self.refuses(NothingToSend, 2, tree.send, 2)
        self.same(seen(tree, 3), before)
        self.same((tree.come(1, 0), tree.row(0)), ((0,), (0, 1)))

    def test_nothing_to_send_comes_ahead_of_waiting(self):
        tree = Tree(BITS, (0,), (TWO,), (1,))
        tree.say(0)
        tree.send(1)
        self.refuses(NothingToSend, 1, tree.send, 1)
        tree.say(1)
        self.refuses(Waits, 1, tree.send, 1)


if __name__ == "__main__":
    unittest.main()

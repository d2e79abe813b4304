"""Worlds: one link with a sender, the wires, a hearer and the answers, played deed by deed."""

from neverfour.books import made_book
from neverfour.common import whole, whole_within
from neverfour.errors import BadManner, BadWire, Full, NoAnswer, NoMessage, NoPulse, Waits
from neverfour.layings import check_carrying, more_tops, no_tops, steps_of
from neverfour.lots import lies_below, sum_of
from neverfour.readers import Teller
from neverfour.windows import GREATEST_SMALL, made_window

MOST_SAID = 2000


class World:
    """A link on which messages are said."""

    def __init__(self, book, laying, window, manner):
        made_book(book)
        check_carrying(book, laying)
        made_window(window)
        if manner == "plain":
            hearer = Teller(book, laying)
        elif manner == "sooner" and whole_within(window, 1, GREATEST_SMALL):
            hearer = Sooner(book, laying, window)
        else:
            raise BadManner(manner)
        self.link = Link(book, laying, window, hearer)

    def say(self, message):
        """The message is said."""
        if not self.link.lets(message):
            raise NoMessage(message)
        if self.link.waits():
            raise Waits(0)
        if len(self.link.sent) >= MOST_SAID:
            raise Full(MOST_SAID)
        self.link.send(message)

    def come(self, wire):
        """A pulse comes on the wire; the messages that are newly told."""
        return self.link.come(wire)

    def answer(self):
        """An answer comes."""
        if self.link.answers == 0:
            raise NoAnswer(0)
        self.link.take_answer()

    def said(self):
        """The row said."""
        return tuple(self.link.sent)

    def told(self):
        """The row told."""
        return tuple(self.link.hearer.messages)

    def counts(self):
        """The number of pulses that came on each wire."""
        return tuple(self.link.heard)

    def away(self):
        """The number of pulses under way on each wire."""
        return tuple(self.link.under_way)

    def owed(self):
        """The number of answers under way."""
        return self.link.answers

    def answered(self):
        """The number of answers that have come."""
        return self.link.answers_come

    def good(self):
        """Whether the row told begins the row said."""
        return begins(self.link.hearer.messages, self.link.sent)

    def still(self):
        """Whether no pulse and no answer is under way."""
        return self.link.quiet()


def begins(one, two):
    """Whether the first list of messages begins the second one."""
    return two[:len(one)] == one


class Link:
    """What is sent, what is under way and what came; who sends asks first whether the message is let."""

    def __init__(self, book, laying, window, hearer):
        self.steps = [{message: (to, lot) for message, to, lot in steps} for steps in steps_of(book, laying)]
        self.window = window
        self.hearer = hearer
        self.place = 0
        self.sent = []
        self.under_way = [0] * laying[0]
        self.heard = [0] * laying[0]
        self.answers = 0
        self.answers_come = 0

    def lets(self, message):
        """Whether the book lets the message behind what is sent."""
        return whole(message) and message in self.steps[self.place]

    def unanswered(self):
        """How many messages are sent beyond the answers that have come."""
        return len(self.sent) - self.answers_come

    def waits(self):
        """Whether the sender must wait for answers."""
        return self.window is not None and self.unanswered() >= self.window

    def send(self, message):
        """Puts the pulses of the message under way."""
        self.place, lot = self.steps[self.place][message]
        self.sent.append(message)
        self.under_way = list(sum_of(self.under_way, lot))

    def come(self, wire):
        """A pulse comes on the wire; the messages that are newly told. BadWire or NoPulse if none can."""
        if not whole_within(wire, 0, len(self.under_way) - 1):
            raise BadWire(wire)
        if self.under_way[wire] == 0:
            raise NoPulse(wire)
        self.under_way[wire] -= 1
        self.heard[wire] += 1
        told = self.hearer.tell(self.heard)
        if self.window is not None:
            self.answers += len(told)
        return told

    def take_answer(self):
        """An answer that is under way comes."""
        self.answers -= 1
        self.answers_come += 1

    def quiet(self):
        """Whether nothing is under way."""
        return not any(self.under_way) and self.answers == 0


class Sooner:
    """A hearer that tells a message once rows within the window can bring the counts with this message alone."""

    def __init__(self, book, laying, window):
        self.steps = steps_of(book, laying)
        self.tops = [no_tops(laying[1], laying[0])]
        while len(self.tops) < window:
            self.tops.append(more_tops(laying[1], self.tops[-1]))
        self.messages = []
        self.place = 0
        self.total = (0,) * laying[0]
        self.trials = self.new_trials()

    def new_trials(self):
        """For each message that can be told, the ways that begin with it and are still to be tried.

        A way is kept as a tuple of the place behind it, how many messages it may still get, and its total.
        """
        left = len(self.tops) - 1
        return [[(to, left, sum_of(self.total, lot))] for message, to, lot in self.steps[self.place]]

    def tell(self, counts):
        """Tells messages as long as just one can be told; the messages that are newly told."""
        done = len(self.messages)
        while not lies_below(counts, self.total):
            found = self.alive(counts)
            if len(found) != 1:
                break
            self.go_on(found[0])
        return tuple(self.messages[done:])

    def alive(self, counts):
        """The indexes of the messages with which rows can bring the counts; two at most, as more change nothing."""
        found = []
        for index in range(len(self.trials)):
            if len(found) < 2 and self.brings(self.trials[index], counts):
                found.append(index)
        return found

    def brings(self, ways, counts):
        """Whether one of the ways brings the counts; those that do not are dropped for good, as counts never fall."""
        while ways:
            place, left, total = ways[-1]
            if lies_below(counts, total):
                return True
            ways.pop()
            if self.hopeful(place, left, total, counts):
                ways.extend([(to, left - 1, sum_of(total, lot)) for message, to, lot in self.steps[place]])
        return False

    def hopeful(self, place, left, total, counts):
        """Whether, on each wire by itself, so many messages more can bring the counts."""
        for wire in range(len(total)):
            if total[wire] + self.tops[left][wire][place] < counts[wire]:
                return False
        return True

    def go_on(self, index):
        """Tells the message with this index."""
        message, self.place, lot = self.steps[self.place][index]
        self.messages.append(message)
        self.total = sum_of(self.total, lot)
        self.trials = self.new_trials()

"""Talks: expressions of what may be said, their written form, and their books."""

from neverfour.booktexts import END, Words, check_named, is_name, made_names, numbers_of
from neverfour.books import MOST_MESSAGES, MOST_STATES
from neverfour.common import least_states
from neverfour.errors import TooDeep, TooMany, Wide

MOST_SAYINGS = 12
MOST_SIGNS = 12
MOST_BRACKETS = 30


def read_talk(text):
    """The names and the talk of the text."""
    words = Words(text)
    names, talk = talk_part(words)
    words.take_one((END,))
    return (names, talk)


def print_talk(names, talk):
    """The text of the talk."""
    made_names(names)
    check_named(names, said_in(talk))
    return " ".join(written_words(names, talk))


def book_of(talk):
    """The book of the beginnings of the sayings of the talk."""
    book = least_states(states_of(Follows(talk)))
    if len(book) > MOST_STATES:
        raise TooMany(len(book))
    for state in range(len(book)):
        if len(book[state]) > MOST_MESSAGES:
            raise Wide(state)
    return book


def talk_part(words):
    """The names and the talk of a TALK, which ends where no word can go on with it."""
    part = TalkPart(words)
    talk = part.choice()
    names = tuple(sorted(set(part.sayings)))
    return (names, numbered(talk, numbers_of(names)))


class TalkPart:
    """What has been read of a TALK; its methods read on and return talks with names instead of messages."""

    def __init__(self, words):
        self.words = words
        self.sayings = []
        self.signs = 0
        self.brackets = 0

    def choice(self):
        """Reads a TALK."""
        parts = [self.chain()]
        while self.words.next_word() == "|":
            self.words.take()
            parts.append(self.chain())
        return parts[0] if len(parts) == 1 else ("or", tuple(parts))

    def chain(self):
        """Reads a CHAIN."""
        parts = [self.unit()]
        while self.words.next_word() == "(" or is_name(self.words.next_word()):
            parts.append(self.unit())
        return parts[0] if len(parts) == 1 else ("row", tuple(parts))

    def unit(self):
        """Reads a UNIT, which goes on as long as signs stand behind it."""
        unit = self.in_brackets() if self.words.next_word() == "(" else self.saying()
        while self.words.next_word() in ("*", "?"):
            place = self.words.next_place()
            kind = "any" if self.words.take() == "*" else "maybe"
            if self.signs == MOST_SIGNS:
                raise TooMany(place)
            self.signs += 1
            unit = (kind, unit)
        return unit

    def in_brackets(self):
        """Reads a TALK in brackets."""
        place = self.words.next_place()
        self.words.take()
        if self.brackets == MOST_BRACKETS:
            raise TooDeep(place)
        self.brackets += 1
        talk = self.choice()
        self.words.take_one((")",))
        self.brackets -= 1
        return talk

    def saying(self):
        """Reads a NAME."""
        place = self.words.next_place()
        name = self.words.take_name()
        if len(self.sayings) == MOST_SAYINGS:
            raise TooMany(place)
        self.sayings.append(name)
        return ("say", name)


def numbered(talk, numbers):
    """The talk with the numbers of its names."""
    kind, inner = talk
    if kind == "say":
        return ("say", numbers[inner])
    if kind in ("row", "or"):
        return (kind, tuple([numbered(part, numbers) for part in inner]))
    return (kind, numbered(inner, numbers))


def said_in(talk):
    """The messages of the talk, in the order of its text."""
    kind, inner = talk
    if kind == "say":
        return [inner]
    if kind in ("row", "or"):
        return [message for part in inner for message in said_in(part)]
    return said_in(inner)


def written_words(names, talk):
    """The words of the talk."""
    kind, inner = talk
    if kind == "say":
        return [names[inner]]
    if kind == "row":
        return [word for part in inner for word in bracketed(names, part, ("row", "or"))]
    if kind == "or":
        words = bracketed(names, inner[0], ("or",))
        for part in inner[1:]:
            words = words + ["|"] + bracketed(names, part, ("or",))
        return words
    return bracketed(names, inner, ("row", "or")) + ["*" if kind == "any" else "?"]


def bracketed(names, talk, kinds):
    """The words of the talk, in brackets if it is of one of these kinds."""
    words = written_words(names, talk)
    if talk[0] in kinds:
        return ["("] + words + [")"]
    return words


class Follows:
    """What may follow what in the sayings of a talk.

    Its positions are the beginning, 0, and those at which it says a message, in the order of its text. A lot of
    positions is a number with a bit for each of them.
    """

    def __init__(self, talk):
        self.messages = [None]
        self.follow = [0]
        self.follow[0] = self.part(talk)[1]

    def part(self, talk):
        """Whether the talk may say nothing, the positions with which it may begin, those with which it may end."""
        kind, inner = talk
        if kind == "say":
            self.messages.append(inner)
            self.follow.append(0)
            bit = 1 << (len(self.messages) - 1)
            return (False, bit, bit)
        if kind == "row":
            return self.row(inner)
        if kind == "or":
            return self.choice(inner)
        empty, first, last = self.part(inner)
        if kind == "any":
            self.lead(last, first)
        return (True, first, last)

    def row(self, parts):
        """What part tells of a row."""
        empty, first, last = self.part(parts[0])
        for talk in parts[1:]:
            lets, heads, ends = self.part(talk)
            self.lead(last, heads)
            if empty:
                first |= heads
            last = (ends | last) if lets else ends
            empty = empty and lets
        return (empty, first, last)

    def choice(self, parts):
        """What part tells of an or."""
        empty, first, last = self.part(parts[0])
        for talk in parts[1:]:
            lets, heads, ends = self.part(talk)
            empty = empty or lets
            first |= heads
            last |= ends
        return (empty, first, last)

    def lead(self, ends, heads):
        """Notes that each of the heads may follow each of the ends."""
        many = len(self.follow)
        for position in range(many):
            if (ends >> position) & 1:
                self.follow[position] |= heads

    def heads_behind(self, positions):
        """The positions that may follow one of these."""
        heads = 0
        for position in range(len(self.follow)):
            if (positions >> position) & 1:
                heads |= self.follow[position]
        return heads


def states_of(follows):
    """The states of a book of the beginnings of the sayings; each is a lot of positions that one row may come to."""
    places = {}
    for position in range(1, len(follows.messages)):
        message = follows.messages[position]
        places[message] = places.get(message, 0) | (1 << position)
    messages = sorted(places)
    # The bit of the beginning alone.
    numbers = {1: 0}
    order = [1]
    states = []
    while len(states) < len(order):
        heads = follows.heads_behind(order[len(states)])
        moves = []
        for message in messages:
            to = heads & places[message]
            if to:
                if to not in numbers:
                    numbers[to] = len(order)
                    order.append(to)
                moves.append((message, numbers[to]))
        states.append(tuple(moves))
    return states

"""Texts and their words, the names of messages, and the written form of books."""

from neverfour.books import MOST_MESSAGES, MOST_STATES, made_book
from neverfour.common import tuple_within
from neverfour.errors import BadNames, BadText, NoState, TooMany, Twice, Unlike

LONGEST_TEXT = 20000
LONGEST_NAME = 12
MOST_FIGURES = 60
MOST_NAMES = 20
KEPT_WORDS = ("wires", "at", "say", "come", "answer", "none")
# What stands where there is nothing: no move of a state, no row of a script, no book of a store.
NOTHING = "-"
# There are no empty words, so the end of a text is told by one.
END = ""


def made_names(thing):
    """The names, or BadNames."""
    if not tuple_within(thing, 0, MOST_NAMES):
        raise BadNames(-1)
    for index in range(len(thing)):
        if not is_name(thing[index]) or (index > 0 and thing[index] <= thing[index - 1]):
            raise BadNames(index)
    return thing


def read_book(text):
    """The names and the book of the text."""
    names, book, _ = book_part(Words(text), (END,))
    return (names, book)


def print_book(names, book):
    """The text of the book."""
    made_names(names)
    made_book(book)
    check_named(names, messages_of(book))
    return written_book(names, book)


def messages_of(book):
    """All messages of the book, some of them more than once."""
    return [message for state in book for message, to in state]


def numbers_of(names):
    """The number of each name."""
    return {names[message]: message for message in range(len(names))}


def check_named(names, messages):
    """Unlike unless each of the messages has a name."""
    for message in messages:
        if message >= len(names):
            raise Unlike(0)


def written_book(names, book):
    """What print_book returns, where the arguments are known to be good."""
    states = []
    for state in range(len(book)):
        moves = ", ".join([f"{names[message]} {to}" for message, to in book[state]])
        states.append(f"{state}: {moves or NOTHING}")
    return "; ".join(states)


def is_name(thing):
    """Whether the thing is a name."""
    if not isinstance(thing, str) or not 1 <= len(thing) <= LONGEST_NAME or thing in KEPT_WORDS:
        return False
    return is_letter(thing[0]) and all([runs_on(sign) for sign in thing])


def is_number(word):
    """Whether the word is a number."""
    if not 1 <= len(word) <= MOST_FIGURES or not all([is_figure(sign) for sign in word]):
        return False
    return word == "0" or word[0] != "0"


def too_great(number):
    """Whether the number has more figures than a text may have."""
    return abs(number) >= 10 ** 60


def check_figures(numbers):
    """TooMany if one of the numbers is too great for a text."""
    for number in numbers:
        if too_great(number):
            raise TooMany(0)


def is_letter(sign):
    """Whether the sign is a small letter."""
    return "a" <= sign <= "z"


def is_figure(sign):
    """Whether the sign is a figure."""
    return "0" <= sign <= "9"


def runs_on(sign):
    """Whether the sign stands in words of more than one sign."""
    return is_letter(sign) or is_figure(sign)


def check_signs(text):
    """BadText unless the thing is a text of which a reader may look at the words."""
    if not isinstance(text, str):
        raise BadText(-1)
    for index in range(len(text)):
        if index == LONGEST_TEXT or not " " <= text[index] <= "~":
            raise BadText(index)


def split_words(text):
    """The words of the text, each as a pair (word, place), with the end as the last one."""
    words = []
    place = 0
    while place < len(text):
        behind = place + 1
        if runs_on(text[place]):
            while behind < len(text) and runs_on(text[behind]):
                behind += 1
        if text[place] != " ":
            words.append((text[place:behind], place))
        place = behind
    words.append((END, len(text)))
    return words


class Words:
    """The words of a text, which are taken from the left; BadText where one that is taken cannot stand there."""

    def __init__(self, text):
        check_signs(text)
        self.words = split_words(text)
        self.done = 0

    def next_word(self):
        """The word that is taken next."""
        return self.words[self.done][0]

    def next_place(self):
        """Its place."""
        return self.words[self.done][1]

    def take(self):
        """Takes the word, which is known to be able to stand there."""
        word = self.next_word()
        # Behind the end nothing is taken.
        if word != END:
            self.done += 1
        return word

    def take_one(self, let):
        """Takes a word that can only be one of these."""
        if self.next_word() not in let:
            raise BadText(self.next_place())
        return self.take()

    def take_name(self):
        """Takes a word that can only be a name."""
        if not is_name(self.next_word()):
            raise BadText(self.next_place())
        return self.take()

    def take_number(self):
        """Takes a word that can only be a number; the number."""
        if not is_number(self.next_word()):
            raise BadText(self.next_place())
        return int(self.take())


def book_part(words, behind):
    """The names and the book of a BOOK, and the word behind it, which can only be one of these and is taken, too."""
    states = []
    found = {}
    closed = ";"
    while closed == ";":
        place = words.next_place()
        words.take_one((str(len(states)),))
        if len(states) == MOST_STATES:
            raise TooMany(place)
        words.take_one((":",))
        moves, closed = state_part(words, found, (";",) + behind)
        states.append(moves)
    check_heads(states)
    names = tuple(sorted(found))
    numbers = numbers_of(names)
    book = [tuple(sorted([(numbers[name], to) for name, to, at in moves])) for moves in states]
    return (names, made_book(tuple(book)), closed)


def state_part(words, found, behind):
    """The moves of a STATE, each a tuple (name, to, place of this number), and the word behind them.

    found has the names of the book that were read before, and gets those of this state.
    """
    if words.next_word() == NOTHING:
        words.take()
        return ([], words.take_one(behind))
    moves = []
    closed = ","
    while closed == ",":
        place = words.next_place()
        name = words.take_name()
        if len(moves) == MOST_MESSAGES or (name not in found and len(found) == MOST_NAMES):
            raise TooMany(place)
        if name in [other for other, to, at in moves]:
            raise Twice(place)
        found[name] = True
        place = words.next_place()
        moves.append((name, words.take_number(), place))
        closed = words.take_one((",",) + behind)
    return (moves, closed)


def check_heads(states):
    """NoState for the first number of a move that is not the number of a state."""
    for moves in states:
        for name, to, place in moves:
            if to >= len(states):
                raise NoState(place)

"""The written form of layings."""

from neverfour.booktexts import END, NOTHING, Words, check_figures, check_named, made_names, messages_of
from neverfour.books import made_book
from neverfour.errors import NoName, Twice
from neverfour.layings import made_laying


def read_laying(names, book, text):
    """The laying of the text."""
    made_names(names)
    made_book(book)
    words = Words(text)
    words.take_one(("wires",))
    wires = words.take_number()
    places = []
    closed = words.take_one((";", END))
    while closed == ";":
        words.take_one((str(len(places)),))
        words.take_one(("at",))
        state = words.take_number()
        words.take_one((":",))
        steps, closed = place_part(words, names)
        places.append((state, moves_told(book, state, steps)))
    return made_laying(book, (wires, tuple(places)))


def place_part(words, names):
    """The steps of a place, the move of each by its message, and the word behind them."""
    if words.next_word() == NOTHING:
        words.take()
        return ({}, words.take_one((";", END)))
    steps = {}
    closed = ","
    while closed == ",":
        place = words.next_place()
        name = words.take_name()
        if name not in names:
            raise NoName(place)
        message = names.index(name)
        if message in steps:
            raise Twice(place)
        to = words.take_number()
        words.take_one(("(",))
        lot = []
        while words.next_word() != ")":
            lot.append(words.take_number())
        words.take()
        steps[message] = (to, tuple(lot))
        closed = words.take_one((",", ";", END))
    return (steps, closed)


def moves_told(book, state, steps):
    """The moves of a place with these steps; something of a wrong form unless they are those of the state."""
    if state >= len(book) or sorted(steps) != [message for message, to in book[state]]:
        return None
    return tuple([steps[message] for message in sorted(steps)])


def print_laying(names, book, laying):
    """The text of the laying."""
    made_names(names)
    made_laying(book, laying)
    # Rows come to each state of the book, so the laying has places for all of them.
    check_named(names, messages_of(book))
    for state, moves in laying[1]:
        for to, lot in moves:
            check_figures(lot)
    places = [f"wires {laying[0]}"]
    for place in range(len(laying[1])):
        state, moves = laying[1][place]
        steps = []
        for pair, move in zip(book[state], moves):
            lot = " ".join([str(number) for number in move[1]])
            steps.append(f"{names[pair[0]]} {move[0]} ({lot})")
        listed = ", ".join(steps)
        places.append(f"{place} at {state}: {listed or NOTHING}")
    return "; ".join(places)

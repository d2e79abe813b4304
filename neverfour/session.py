"""Sessions: rows of text that work on a store, a laying and a world, and their replies."""

from neverfour.booktexts import END, NOTHING, Words, book_part, too_great, written_book
from neverfour.errors import NoLaying, NoName, NoWorld, Refused
from neverfour.judge import greatest, why
from neverfour.layingtexts import print_laying
from neverfour.least import from_window, least_wires
from neverfour.makers import make
from neverfour.store import Store
from neverfour.talks import book_of, talk_part
from neverfour.windows import lasting
from neverfour.worlds import World

# What stands behind the first word of a row.
SHAPES = {
    "talk": ("NAME", "=", "TALK"),
    "book": ("NAME", "=", "BOOK"),
    "drop": ("NAME",),
    "back": (),
    "again": (),
    "rows": (),
    "show": ("NAME",),
    "least": ("NAME", "WINDOW"),
    "from": ("NAME",),
    "lasting": ("NAME", "WINDOW"),
    "make": ("NAME", "WINDOW"),
    "laying": (),
    "greatest": (),
    "why": ("WINDOW",),
    "open": ("WINDOW", "MANNER"),
    "say": ("NAME",),
    "come": ("NUMBER",),
    "answer": (),
    "told": (),
    "said": (),
    "rest": (),
}


def read_row(text):
    """The first word of the row and its parts, the words that stand for themselves left out."""
    words = Words(text)
    kind = words.take_one(tuple(SHAPES))
    parts = []
    for shape in SHAPES[kind]:
        if shape == "=":
            words.take_one(("=",))
        else:
            parts.append(part_of(words, shape))
    words.take_one((END,))
    return (kind, parts)


def part_of(words, shape):
    """Reads a part of this shape; its value."""
    if shape == "NAME":
        return words.take_name()
    if shape == "NUMBER":
        return words.take_number()
    if shape == "MANNER":
        return words.take_one(("plain", "sooner"))
    if shape == "TALK":
        return talk_part(words)
    if shape == "BOOK":
        names, book, _ = book_part(words, (END,))
        return (names, book)
    if words.next_word() == "none":
        words.take()
        return None
    return words.take_number()


def put_talk(session, parts):
    """Puts the book of a talk."""
    name, told = parts
    names, talk = told
    return put_book(session, (name, (names, book_of(talk))))


def put_book(session, parts):
    """Puts a book."""
    name, told = parts
    names, book = told
    session.store.put(name, names, book)
    return f"states {len(book)}"


def drop_book(session, parts):
    """Drops a book."""
    session.store.drop(parts[0])
    return listed(session.store.names())


def undo(session, parts):
    """Undoes a change."""
    return listed(session.store.back())


def redo(session, parts):
    """Does a change again."""
    return listed(session.store.again())


def list_books(session, parts):
    """Tells the names of the store."""
    return listed(session.store.names())


def show_book(session, parts):
    """Tells the text of a book."""
    names, book = session.store.book(parts[0])
    return written_book(names, book)


def tell_least(session, parts):
    """Tells the least number of wires."""
    wires = least_wires(session.store.book(parts[0])[1], parts[1])
    return "no number" if wires is None else str(wires)


def tell_from(session, parts):
    """Tells the least window for which three wires are needed."""
    window = from_window(session.store.book(parts[0])[1])
    return "never" if window is None else str(window)


def tell_lasting(session, parts):
    """Tells the lasting forks."""
    return listed([str(state) for state in lasting(session.store.book(parts[0])[1], parts[1])])


def make_laying(session, parts):
    """Makes a laying of a book."""
    names, book = session.store.book(parts[0])
    laying = make(book, parts[1])
    session.laid = (names, book, laying)
    session.world = None
    return f"wires {laying[0]} places {len(laying[1])}"


def show_laying(session, parts):
    """Tells the text of the laying."""
    names, book, laying = laid_in(session)
    return print_laying(names, book, laying)


def tell_greatest(session, parts):
    """Tells the greatest window of the laying."""
    names, book, laying = laid_in(session)
    window = greatest(book, laying)
    return "every" if window is None else str(window)


def tell_why(session, parts):
    """Tells a paper against the laying."""
    names, book, laying = laid_in(session)
    paper = why(book, laying, parts[0])
    if paper is None:
        return "right"
    if paper[0] == "nought":
        return f"nought {row_told(names, paper[1])} : {names[paper[2]]}"
    kind, u, a, b, y = paper
    return f"cover {row_told(names, u)} : {names[a]} : {names[b]} : {row_told(names, y)}"


def begin_world(session, parts):
    """Makes a new world."""
    names, book, laying = laid_in(session)
    session.world = World(book, laying, parts[0], parts[1])
    return "open"


def say_message(session, parts):
    """Says a message."""
    world = world_in(session)
    names = session.laid[0]
    if parts[0] not in names:
        raise NoName(0)
    world.say(names.index(parts[0]))
    return "said"


def come_pulse(session, parts):
    """Lets a pulse come."""
    told = world_in(session).come(parts[0])
    return row_told(session.laid[0], told)


def come_answer(session, parts):
    """Lets an answer come."""
    world_in(session).answer()
    return "answered"


def tell_told(session, parts):
    """Tells what the world has told."""
    told = world_in(session).told()
    return row_told(session.laid[0], told)


def tell_said(session, parts):
    """Tells what is said in the world."""
    said = world_in(session).said()
    return row_told(session.laid[0], said)


def tell_rest(session, parts):
    """Tells whether anything is under way in the world."""
    return "still" if world_in(session).still() else "under way"


def laid_in(session):
    """The laying of the session, with its names and its book ahead of it; or NoLaying."""
    if session.laid is None:
        raise NoLaying(0)
    return session.laid


def world_in(session):
    """The world of the session, or NoWorld."""
    if session.world is None:
        raise NoWorld(0)
    return session.world


def row_told(names, row):
    """The names of the messages of the row."""
    return listed([names[message] for message in row])


def listed(words):
    """The words, separated by blanks."""
    return " ".join(words) or NOTHING


def written_what(what):
    """What an error tells, in the reply to a row that is refused."""
    if isinstance(what, str):
        return what
    if too_great(what):
        return "great"
    return str(what)


DEEDS = {
    "talk": put_talk,
    "book": put_book,
    "drop": drop_book,
    "back": undo,
    "again": redo,
    "rows": list_books,
    "show": show_book,
    "least": tell_least,
    "from": tell_from,
    "lasting": tell_lasting,
    "make": make_laying,
    "laying": show_laying,
    "greatest": tell_greatest,
    "why": tell_why,
    "open": begin_world,
    "say": say_message,
    "come": come_pulse,
    "answer": come_answer,
    "told": tell_told,
    "said": tell_said,
    "rest": tell_rest,
}


class Session:
    """A store, the laying that was made last, with its names and its book, and a world of it."""

    def __init__(self):
        self.store = Store()
        self.laid = None
        self.world = None

    def row(self, text):
        """Does the row; its reply."""
        try:
            kind, parts = read_row(text)
            deed = DEEDS[kind]
            return deed(self, parts)
        except Refused as refusal:
            return f"refused: {refusal.kind} {written_what(refusal.what)}"

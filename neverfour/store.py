"""The store: books that are kept under names, with every change to be undone and done again."""

from neverfour.books import made_book
from neverfour.booktexts import END, NOTHING, Words, book_part, check_named, is_name, made_names, messages_of
from neverfour.booktexts import written_book
from neverfour.errors import BadName, Full, NoBook, NothingAgain, NothingBack, Taken, TooMany, Twice

MOST_BOOKS = 20


class Store:
    """Books under names, each a pair of the names of its messages and of the book."""

    def __init__(self):
        self.kept = {}
        self.changes = []
        self.undone = []

    def put(self, name, names, book):
        """Keeps the book under the name."""
        if not is_name(name):
            raise BadName(0)
        made_names(names)
        made_book(book)
        check_named(names, messages_of(book))
        if name not in self.kept and len(self.kept) >= MOST_BOOKS:
            raise Full(MOST_BOOKS)
        self.do_change(((name, self.kept.get(name), (names, book)),))

    def drop(self, name):
        """Removes the name and its book."""
        self.do_change(((name, self.book(name), None),))

    def rename(self, old, new):
        """Keeps the book under another name."""
        pair = self.book(old)
        if not is_name(new):
            raise BadName(0)
        if new in self.kept:
            raise Taken(new)
        self.do_change(((old, pair, None), (new, None, pair)))

    def names(self):
        """The names that are there, ascending."""
        return tuple(sorted(self.kept))

    def book(self, name):
        """The pair that is kept under the name."""
        if not is_name(name):
            raise NoBook(0)
        if name not in self.kept:
            raise NoBook(name)
        return self.kept[name]

    def back(self):
        """Undoes the last change that is not undone; the names that are there then."""
        if not self.changes:
            raise NothingBack(0)
        change = self.changes.pop()
        for name, before, behind in change:
            self.keep(name, before)
        self.undone.append(change)
        return self.names()

    def again(self):
        """Does the last undone change again; the names that are there then."""
        if not self.undone:
            raise NothingAgain(0)
        change = self.undone.pop()
        for name, before, behind in change:
            self.keep(name, behind)
        self.changes.append(change)
        return self.names()

    def text(self):
        """The text of the store."""
        books = []
        for name in self.names():
            names, book = self.kept[name]
            books.append(f"{name} = {written_book(names, book)}")
        return " | ".join(books) or NOTHING

    def do_change(self, change):
        """Does a new change, which has a tuple for each name: what is kept there before and behind it, or None."""
        for name, before, behind in change:
            self.keep(name, behind)
        self.changes.append(change)
        self.undone = []

    def keep(self, name, pair):
        """Keeps the pair under the name, or nothing if it is None."""
        if pair is not None:
            self.kept[name] = pair
        elif name in self.kept:
            del self.kept[name]


def read_store(text):
    """The store of the text, with nothing to undo."""
    words = Words(text)
    store = Store()
    if words.next_word() == NOTHING:
        words.take()
        words.take_one((END,))
        return store
    closed = "|"
    while closed == "|":
        place = words.next_place()
        name = words.take_name()
        if len(store.kept) == MOST_BOOKS:
            raise TooMany(place)
        if name in store.kept:
            raise Twice(place)
        words.take_one(("=",))
        names, book, closed = book_part(words, ("|", END))
        store.keep(name, (names, book))
    return store

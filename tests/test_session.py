"""[15.3], [15.4], [15.5] and neverfour.session."""

import unittest

from neverfour.booktexts import print_book
from neverfour.errors import Refused
from neverfour.judge import greatest, why
from neverfour.layingtexts import print_laying
from neverfour.least import from_window, least_wires
from neverfour.makers import make
from neverfour.session import Session, written_what
from neverfour.talks import book_of
from neverfour.windows import lasting
from neverfour.worlds import World

from tests.case import ODD, Case, Source
from tests.test_booktexts import NAMES, plain_print
from tests.texts import POOL, Fault, Walk, changed, joined, plain_talk

# Rows of each kind.
ROWS = (
    "talk t = (go|stop)* off?", "book b = 0: data 0, shut 1; 1: -", "drop e", "back", "again", "rows", "show b", "least b 2",
    "from b", "lasting b 2", "make b 2", "laying", "greatest", "why 3", "open 2 plain", "open none plain", "open 2 sooner",
    "say data", "come 0", "answer", "told", "said", "rest", "why none", "make b none", "least b none",
)


def prepared():
    """A session with three books, a laying and a world in which something is under way."""
    session = Session()
    for row in ("book b = 0: data 0, shut 1; 1: -", "book e = 0: -", "talk bits = (one|zero)*", "drop bits", "back",
                "book x = 0: -", "back", "make b 2", "open 2 plain", "say data", "say shut", "come 0"):
        session.row(row)
    return session


def seen(session):
    """All that a session shows without a change."""
    rows = ["rows", "laying", "greatest", "told", "said", "rest", "show b", "show e", "show bits", "show t", "show x"]
    return [session.row(row) for row in rows]


def plain_refusal(text):
    """The reply if the words are wrong, None if they are not, by the plain reader."""
    try:
        Walk("session", text)
    except Fault as fault:
        error, what = fault.args
        return f"refused: {error.__name__} {what}"
    return None


def listed(words):
    return " ".join(words) if words else "-"


class PlainSession:
    """A session by the table of [15.3] and the order of [15.4], of functions of the package; books in a plain dict."""

    def __init__(self):
        self.books, self.past, self.ahead = {}, [], []
        self.laid = self.world = None

    def row(self, text):
        refused = plain_refusal(text)
        if refused:
            return refused
        walk = Walk("session", text)
        words = [word for _, word, _ in walk.read if word]
        kind, rest = words[0], words[1:]
        if kind in ("laying", "greatest", "why", "open") and not self.laid:
            return "refused: NoLaying 0"
        if kind in ("say", "come", "answer", "told", "said", "rest") and not self.world:
            return "refused: NoWorld 0"
        if kind in ("drop", "show", "least", "from", "lasting", "make") and rest[0] not in self.books:
            return "refused: NoBook " + rest[0]
        if kind == "say" and rest[0] not in self.laid[0]:
            return "refused: NoName 0"
        window = None if rest[-1:] == ["none"] else int(rest[-1]) if rest[-1:] and rest[-1].isdigit() else 0
        if kind == "open":
            window = None if rest[0] == "none" else int(rest[0])
        try:
            return self.reply(kind, rest, window, walk)
        except Refused as refusal:
            what = refusal.what
            if isinstance(what, int) and abs(what) >= 10 ** 60:
                what = "great"
            return f"refused: {type(refusal).__name__} {what}"

    def change(self, books):
        self.past.append(self.books)
        self.books, self.ahead = books, []

    def reply(self, kind, rest, window, walk):
        if kind in ("talk", "book"):
            names, book = walk.told[0] if kind == "book" else plain_talk(rest[2:])
            book = book if kind == "book" else book_of(book)
            if rest[0] not in self.books and len(self.books) == 20:
                return "refused: Full 20"
            self.change(dict(self.books, **{rest[0]: (names, book)}))
            return f"states {len(book)}"
        if kind in ("drop", "back", "again", "rows"):
            return self.moved(kind, rest)
        if kind in ("show", "least", "from", "lasting", "make"):
            return self.of_book(kind, window, *self.books[rest[0]])
        if kind in ("laying", "greatest", "why", "open"):
            return self.of_laying(kind, window, rest)
        return self.of_world(kind, rest)

    def moved(self, kind, rest):
        if kind == "drop":
            self.change({name: pair for name, pair in self.books.items() if name != rest[0]})
        elif kind == "back":
            if not self.past:
                return "refused: NothingBack 0"
            self.ahead.append(self.books)
            self.books = self.past.pop()
        elif kind == "again":
            if not self.ahead:
                return "refused: NothingAgain 0"
            self.past.append(self.books)
            self.books = self.ahead.pop()
        return listed(sorted(self.books))

    def of_book(self, kind, window, names, book):
        if kind == "show":
            return print_book(names, book)
        if kind == "least":
            found = least_wires(book, window)
            return "no number" if found is None else str(found)
        if kind == "from":
            found = from_window(book)
            return "never" if found is None else str(found)
        if kind == "lasting":
            return listed([str(state) for state in lasting(book, window)])
        laying = make(book, window)
        self.laid, self.world = (names, book, laying), None
        return f"wires {laying[0]} places {len(laying[1])}"

    def of_laying(self, kind, window, rest):
        names, book, laying = self.laid
        if kind == "laying":
            return print_laying(names, book, laying)
        if kind == "greatest":
            found = greatest(book, laying)
            return "every" if found is None else str(found)
        if kind == "open":
            self.world = World(book, laying, window, rest[1])
            return "open"
        paper = why(book, laying, window)
        if paper is None:
            return "right"
        told = [listed([names[m] for m in part]) if isinstance(part, tuple) else names[part] for part in paper[1:]]
        return paper[0] + " " + " : ".join(told)

    def of_world(self, kind, rest):
        names, world = self.laid[0], self.world
        if kind == "say":
            world.say(names.index(rest[0]))
            return "said"
        if kind == "answer":
            world.answer()
            return "answered"
        if kind == "rest":
            return "still" if world.still() else "under way"
        row = world.come(int(rest[0])) if kind == "come" else world.told() if kind == "told" else world.said()
        return listed([names[m] for m in row])


class Examples(Case):

    def test_example(self):
        session = Session()
        rows = ["book b = 0: data 0, shut 1; 1: -", "least b 9", "least b none", "make b 2", "greatest"]
        self.same([session.row(row) for row in rows], ["states 2", "2", "no number", "wires 2 places 3", "2"])
        rows = ("why 3", "open 2 plain", "come 0", "say data", "say data")
        self.same(tuple(session.row(row) for row in rows), (
            "cover - : shut : data : data shut", "open", "refused: NoPulse 0", "said", "said"))
        rows = ["say shut", "come 1", "come 0", "answer", "told", "rest", "show c", "show b 1"]
        self.same([session.row(row) for row in rows], [
            "refused: Waits 0", "-", "data data", "answered", "data data", "under way", "refused: NoBook c",
            "refused: BadText 7"])

    def test_a_new_session(self):
        session = Session()
        self.same(session.row(text="rows"), "-")
        for row in ("laying", "greatest", "why 1", "open 1 plain"):
            self.same(session.row(row), "refused: NoLaying 0")
        for row in ("say a", "come 0", "answer", "told", "said", "rest"):
            self.same(session.row(row), "refused: NoWorld 0")
        self.same((session.row("back"), session.row("again")), ("refused: NothingBack 0", "refused: NothingAgain 0"))


class EachRow(Case):

    def says(self, session, *pairs):
        """The session replies so to the rows."""
        for row, reply in pairs:
            self.same((row, session.row(row)), (row, reply))

    def test_talk_and_book(self):
        self.says(
            Session(), ("talk t = (go|stop)* off?", "states 2"), ("show t", "0: go 0, off 1, stop 0; 1: -"),
            ("talk t = a b b", "states 4"), ("show t", "0: a 1; 1: b 2; 2: b 3; 3: -"), ("rows", "t"), ("book b=0:-", "states 1"),
            ("show b", "0: -"), ("book t = 0: b 1, a 1; 1: c 0", "states 2"), ("show t", "0: a 1, b 1; 1: c 0"), ("back", "b t"),
            ("show t", "0: a 1; 1: b 2; 2: b 3; 3: -"), ("talk talk = talk book | book", "states 3"),
            ("show talk", "0: book 1, talk 2; 1: -; 2: book 1"), ("book book = 0: book 0", "states 1"), ("rows", "b book t talk"),
            # A book is kept as it is written, not as its least book.
            ("book two = 0: a 1; 1: a 0", "states 2"), ("talk two = a*", "states 1"),
        )

    def test_refused_talks_and_books(self):
        session = Session()
        self.says(
            session, ("talk t = a b c d e f g h", "refused: TooMany 9"), ("talk t = a|b|c|d|e|f", "refused: Wide 0"),
            ("talk t = " + "a" * 13, "refused: BadText 9"), ("talk t = " + "(" * 31, "refused: TooDeep 39"),
            ("talk t = " + "a " * 12 + "a", "refused: TooMany 33"), ("talk t = a" + "*" * 13, "refused: TooMany 22"),
            ("talk t =", "refused: BadText 8"), ("talk t = )", "refused: BadText 9"), ("talk t = a)", "refused: BadText 10"),
            ("talk at = a", "refused: BadText 5"), ("book b = 0: a 1", "refused: NoState 14"), ("book b = 0: -; 1: -", "refused: Stray 1"),
            ("book b = 0: a 0, a 0", "refused: Twice 17"), ("book b = 1: -", "refused: BadText 9"), ("book b = -", "refused: BadText 9"),
            ("book b = 0: - | c = 0: -", "refused: BadText 14"), ("book b", "refused: BadText 6"), ("book = 0: -", "refused: BadText 5"),
            ("book b = 0: a 1 )", "refused: BadText 16"), ("rows", "-"), ("back", "refused: NothingBack 0"),
        )

    def test_drop_back_again_rows(self):
        self.says(
            Session(), ("book b = 0: -", "states 1"), ("book a = 0: x 0", "states 1"), ("rows", "a b"), ("drop b", "a"),
            ("drop b", "refused: NoBook b"), ("back", "a b"), ("back", "b"), ("again", "a b"), ("again", "a"), ("drop a", "-"),
            ("again", "refused: NothingAgain 0"), ("back", "a"), ("back", "a b"), ("back", "b"), ("back", "-"),
            ("back", "refused: NothingBack 0"), ("again", "b"), ("rows", "b"),
        )

    def test_twenty_books_and_one_more(self):
        session = Session()
        for name in NAMES:
            self.same(session.row(f"book {name} = 0: -"), "states 1")
        self.says(
            session, ("book z = 0: -", "refused: Full 20"), ("talk z = a", "refused: Full 20"), ("talk n0 = a", "states 2"),
            ("talk z = a b c d e f g h", "refused: TooMany 9"), ("drop n1", " ".join(name for name in NAMES if name != "n1")),
            ("book z = 0: -", "states 1"),
        )

    def test_least_from_lasting(self):
        self.says(
            Session(), ("talk bits = (a|b)*", "states 1"), ("least bits 1", "2"), ("least bits 2", "3"), ("least bits none", "no number"),
            ("least bits " + "9" * 60, "3"), ("from bits", "2"), ("lasting bits 1", "-"), ("lasting bits 2", "0"),
            ("book end = 0: -", "states 1"), ("least end none", "0"), ("from end", "never"), ("lasting end 5", "-"),
            ("talk ring = a*", "states 1"), ("least ring none", "1"), ("from ring", "never"),
            ("book two = 0: a 1, b 1; 1: a 0, b 0", "states 2"), ("lasting two 2", "0 1"), ("least bits 0", "refused: BadWindow 0"),
            ("lasting bits 0", "refused: BadWindow 0"), ("lasting bits none", "refused: BadWindow 0"), ("from c", "refused: NoBook c"),
            ("least c 0", "refused: NoBook c"), ("lasting c none", "refused: NoBook c"), ("least bits", "refused: BadText 10"),
            ("from bits 1", "refused: BadText 10"), ("least bits " + "9" * 61, "refused: BadText 11"),
        )

    def test_make_and_laying(self):
        session = Session()
        self.says(
            session, ("book b = 0: data 0, shut 1; 1: -", "states 2"), ("make b 2", "wires 2 places 3"),
            ("laying", "wires 2; 0 at 0: data 1 (1 0), shut 2 (0 2); 1 at 0: data 0 (0 1), shut 2 (2 0); 2 at 1: -"),
            ("make b none", "refused: NoNumber 0"), ("make b 7", "refused: BadWindow 0"), ("make b 0", "refused: BadWindow 0"),
            ("make c 7", "refused: NoBook c"), ("greatest", "2"), ("make b 1", "wires 2 places 2"), ("greatest", "1"),
            ("book e = 0: -", "states 1"), ("make e none", "wires 0 places 1"), ("laying", "wires 0; 0 at 0: -"), ("greatest", "every"),
            ("why none", "right"), ("open 5 sooner", "open"), ("say data", "refused: NoName 0"), ("rest", "still"), ("told", "-"),
        )

    def test_a_laying_that_cannot_be_made(self):
        session = Session()
        full = "; ".join(f"{s}: " + ", ".join(f"{m} {(s + k) % 8}" for k, m in enumerate("abcde")) for s in range(8))
        self.says(
            session, ("book f = " + full, "states 8"), ("make f 3", "wires 3 places 744"), ("make f 4", "refused: TooMany 2000"),
            ("make f 6", "refused: TooMany 19531"), ("open 3 plain", "open"), ("say e", "said"), ("make f 4", "refused: TooMany 2000"),
            ("said", "e"),
        )

    def test_greatest_and_why(self):
        self.says(
            Session(), ("book b = 0: data 0, shut 1; 1: -", "states 2"), ("make b 2", "wires 2 places 3"), ("why 1", "right"),
            ("why 2", "right"), ("why 3", "cover - : shut : data : data shut"), ("why none", "cover - : shut : data : data shut"),
            ("why 0", "refused: BadWindow 0"), ("why " + "9" * 60, "cover - : shut : data : data shut"), ("why", "refused: BadText 3"),
            ("talk f = a|b", "states 2"), ("make f none", "wires 2 places 3"), ("greatest", "every"), ("why none", "right"),
        )

    def test_open(self):
        session = prepared()
        self.same(session.row("said"), "data shut")
        self.says(
            session, ("open 0 plain", "refused: BadWindow 0"), ("open 7 sooner", "refused: BadManner sooner"),
            ("open none sooner", "refused: BadManner sooner"), ("open 0 sooner", "refused: BadWindow 0"), ("said", "data shut"),
            ("open 2 later", "refused: BadText 7"), ("open plain", "refused: BadText 5"), ("open 2", "refused: BadText 6"),
            ("open " + "9" * 60 + " plain", "open"), ("said", "-"), ("rest", "still"), ("open 6 sooner", "open"),
            ("open none plain", "open"), ("say data", "said"), ("say data", "said"), ("say data", "said"), ("said", "data data data"),
        )

    def test_the_world(self):
        self.says(
            Session(), ("book b = 0: data 0, shut 1; 1: -", "states 2"), ("make b 2", "wires 2 places 3"), ("rest", "refused: NoWorld 0"),
            ("open 2 plain", "open"), ("told", "-"), ("said", "-"), ("rest", "still"), ("answer", "refused: NoAnswer 0"),
            ("say data", "said"), ("rest", "under way"), ("say shut", "said"), ("say data", "refused: NoMessage 0"),
            ("say shut", "refused: NoMessage 1"), ("say wires", "refused: BadText 4"), ("say dat", "refused: NoName 0"),
            ("come 2", "refused: BadWire 2"), ("come " + "9" * 60, "refused: BadWire " + "9" * 60), ("come x", "refused: BadText 5"),
            ("come 1", "refused: NoPulse 1"), ("come 0", "data"), ("told", "data"), ("come 0", "-"), ("come 0", "shut"),
            ("told", "data shut"), ("said", "data shut"), ("rest", "under way"), ("answer", "answered"), ("answer", "answered"),
            ("answer", "refused: NoAnswer 0"), ("rest", "still"),
        )

    def test_the_2000th_message(self):
        session = Session()
        self.says(session, ("talk one = a*", "states 1"), ("make one none", "wires 1 places 1"), ("open none plain", "open"))
        for _ in range(2000):
            self.assertEqual(session.row("say a"), "said")
        self.says(session, ("say a", "refused: Full 2000"), ("say b", "refused: NoName 0"))
        self.assertEqual(session.row("said"), "a" + " a" * 1999)


class Refusals(Case):

    def test_what_is_not_a_text(self):
        session = Session()
        for thing in ODD:
            if not isinstance(thing, str):
                self.same(session.row(thing), "refused: BadText -1")
        for text, place in (
            ("", 0), ("    ", 4), ("rows\n", 4), ("rows" + " " * 19997, 20000), ("+", 0), ("Rows", 0), ("row", 0), ("rows rows", 5),
            ("1", 0), ("none", 0), ("-", 0), ("\x7f", 0), ("b = 0: -", 0), ("put b", 0), ("at", 0), ("rows;", 4), ("told 1", 5),
        ):
            self.same((text, session.row(text)), (text, f"refused: BadText {place}"))
        self.same(session.row("rows" + " " * 19996), "-")
        self.same(session.row("   book   b=0:-   "), "states 1")

    def test_the_order_of_refusals(self):
        session = Session()
        # The words come ahead of all else, then the laying and the world, then books and names, then what is done.
        for row, reply in (
            ("why x", "BadText 4"), ("why 0", "NoLaying 0"), ("open 0 sooner", "NoLaying 0"), ("open 0 later", "BadText 7"),
            ("say at", "BadText 4"), ("say x", "NoWorld 0"), ("come 9", "NoWorld 0"), ("come 9 9", "BadText 7"), ("laying 1", "BadText 7"),
            ("make b 0", "NoBook b"), ("make b 0 0", "BadText 9"), ("lasting b none", "NoBook b"), ("drop say", "BadText 5"),
        ):
            self.same((row, session.row(row)), (row, "refused: " + reply))
        session.row("book b = 0: a 0, b 0")
        session.row("make b 1")
        for row, reply in (
            ("say x", "NoWorld 0"), ("why 0", "BadWindow 0"), ("open 0 sooner", "BadWindow 0"), ("open 7 sooner", "BadManner sooner"),
        ):
            self.same((row, session.row(row)), (row, "refused: " + reply))
        session.row("open 1 plain")
        session.row("say a")
        for row, reply in (("say x", "NoName 0"), ("say a", "Waits 0"), ("come 7", "BadWire 7"), ("come 1", "NoPulse 1")):
            self.same((row, session.row(row)), (row, "refused: " + reply))

    def test_great_numbers(self):
        # What errors tell is written in decimal, but for numbers of more than 60 figures.
        for what, reply in (
            (10 ** 60 - 1, "9" * 60), (10 ** 60, "great"), (10 ** 5000, "great"), (-(10 ** 60), "great"), (1 - 10 ** 60, "-" + "9" * 60),
            (0, "0"), (-1, "-1"), (20000, "20000"), ("sooner", "sooner"), ("b", "b"),
        ):
            self.same(written_what(what), reply)

    def test_great_lots(self):
        # No laying that make returns has such lots, so the session is given one here.
        session = Session()
        session.row("book b = 0: a 0, b 1; 1: -")
        session.row("make b 1")
        names, book, _ = session.laid
        for number, size in ((200, 201 ** 2), (10 ** 20, None), (10 ** 29, None), (10 ** 40, "great")):
            session.laid = (names, book, (2, ((0, ((0, (number, number)), (1, (0, 1)))), (1, ()))))
            told = size if size else (number + 1) ** 2
            self.same(session.row("greatest"), f"refused: TooMany {told}")
            self.same(session.row("why none"), f"refused: TooMany {told}")
            self.same(session.row("why 6"), "cover - : b : a : -")
        session.laid = (names, book, (2, ((0, ((0, (10 ** 60, 1)), (1, (0, 1)))), (1, ()))))
        self.same(session.row("laying"), "refused: TooMany 0")
        session.laid = (names, book, (2, ((0, ((0, (1, 0)), (1, (0, 0)))), (1, ()))))
        self.same((session.row("why 1"), session.row("greatest")), ("nought - : b", "0"))
        self.same(session.row("open 1 plain"), "refused: Nought 0")

    def test_a_refused_row_changes_nothing(self):
        session = prepared()
        before = seen(session)
        refused = 0
        for row in ("talk t = a b c d e f g h", "book t = 0: a 7", "drop z", "show z", "least b 0", "make z 1", "make b 7", "make b none",
                    "why 0", "open 0 plain", "open 9 sooner", "say data", "say x", "come 5", "come 1", "lasting b none", "x", ""):
            self.assertTrue(session.row(row).startswith("refused: "), row)
            self.same(seen(session), before)
            refused += 1
        # What was undone is still there to be done again.
        self.same(session.row("again"), "b bits e x")

    def test_each_wrong_word(self):
        source = Source(171)
        kinds = {}
        books = ("book b = 0: data 1, shut 0; 1: data 0", "book b = 0: a 1; 1: a 2; 2: b 0, a 1", "book b = 0: a 0, b 0, x1 0")
        for row in ROWS + books * 6:
            words = [word for _, word, _ in Walk("session", row).read if word]
            for more in changed(words, source):
                text = joined(more, source)
                session, plain = prepared(), plain_refusal(text)
                if plain:
                    self.same((text, session.row(text)), (text, plain))
                    kinds[plain.split()[1]] = True
                else:
                    self.assertNotIn("BadText", session.row(text))
        self.assertLessEqual({"BadText", "Twice", "NoState", "Stray"}, set(kinds))

    def test_words_of_any_kind(self):
        source = Source(172)
        session = prepared()
        for k in range(4000):
            words = [POOL[source.below(len(POOL))] for _ in range(source.below(6))]
            text = joined([ROWS[source.below(len(ROWS))].split()[0]] + words, source)
            plain = plain_refusal(text)
            if plain:
                self.same((text, session.row(text)), (text, plain))


class LongSessions(Case):

    def test_against_the_plain_way(self):
        source = Source(173)
        kinds = {}
        for k in range(60):
            session, plain = Session(), PlainSession()
            for _ in range(80):
                row = self.drawn_row(source)
                reply = plain.row(row)
                self.same((row, session.row(row)), (row, reply))
                kinds[" ".join(reply.split()[:2]) if reply.startswith("refused") else row.split()[0]] = True
            self.same(session.row("rows"), listed(sorted(plain.books)))
        for kind in ROWS:
            self.assertIn(kind.split()[0], kinds)
        for error in ("NoLaying", "NoWorld", "NoBook", "NoName", "BadWindow", "Waits", "NoPulse", "BadWire", "BadManner", "NoMessage",
                      "NothingBack", "NothingAgain", "NoNumber", "NoAnswer", "BadText"):
            self.assertIn("refused: " + error, kinds)

    def drawn_row(self, source):
        name = "ab"[source.below(2)]
        window = ("1", "2", "3", "none", "0", "7")[source.below(6)]
        kind = source.below(20)
        if kind == 0:
            return f"talk {name} = " + ("x*y?", "(x|y)*", "x|y z", "x (x|y)")[source.below(4)]
        if kind == 1:
            return f"book {name} = " + " ".join(plain_print(("x", "y", "z"), source.book(3, 2, 3)))
        if kind == 2:
            return ("drop " + name, "back", "again", "rows", "show " + name)[source.below(5)]
        if kind == 3:
            return (f"least {name} {window}", f"from {name}", f"lasting {name} {window}", f"show {name} 1")[source.below(4)]
        if kind == 4:
            return f"make {name} {window}"
        if kind == 5:
            return ("laying", "greatest", f"why {window}")[source.below(3)]
        if kind == 6:
            return f"open {window} " + ("plain", "sooner")[source.below(2)]
        if kind < 11:
            return "say " + "xyzw"[source.below(4)]
        if kind < 17:
            return f"come {source.below(4)}"
        return ("answer", "told", "said", "rest")[source.below(4)]

    def test_what_happens_to_the_store_changes_neither_laying_nor_world(self):
        session = prepared()
        before = [session.row(row) for row in ("laying", "told", "said", "rest", "greatest")]
        for row in ("drop b", "book b = 0: other 0", "talk b = a", "back", "back", "back", "again", "drop e"):
            self.assertNotIn("refused", session.row(row))
            self.same([session.row(row) for row in ("laying", "told", "said", "rest", "greatest")], before)
        self.same((session.row("come 0"), session.row("come 0")), ("-", "shut"))

    def test_sessions_are_apart(self):
        one, two = prepared(), Session()
        self.same((two.row("rows"), two.row("laying"), one.row("rows")), ("-", "refused: NoLaying 0", "b bits e"))


if __name__ == "__main__":
    unittest.main()

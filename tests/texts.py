"""A plain reader of texts: tables that tell which words can stand behind which, by the words of [14.1] to [14.8].

It reads word by word and does not build anything; what a text means is taken from its words in another way.
"""

import re

from neverfour.errors import BadLaying, BadText, NoName, NoState, Refused, Stray, TooDeep, TooMany, Twice

KEPT = ("wires", "at", "say", "come", "answer", "none")
SIGNS = (";", ":", ",", "(", ")", "|", "*", "?", "-", "=")
# Words for trying: names, numbers, kept words, signs, and words that can stand nowhere.
POOL = (
    "a", "b", "data", "x1", "abcdefghijkl", "talk", "0", "1", "2", "3", "12", "9" * 60, ";", ":", ",", "(", ")", "|", "*",
    "?", "-", "=", "wires", "at", "say", "come", "answer", "none", "plain", "sooner", "1a", "00", "007", "abcdefghijklm",
    "1" * 61, "+", "A", ".", "_", "'", "~", "!",
)


def plain_words(text):
    """The words with their places, the end as an empty word."""
    return [(m.group(), m.start()) for m in re.finditer("[a-z0-9]+|[^ ]", text)] + [("", len(text))]


def plain_name(word):
    return bool(re.fullmatch("[a-z][a-z0-9]{0,11}", word)) and word not in KEPT


def plain_number(word):
    return bool(re.fullmatch("0|[1-9][0-9]{0,59}", word))


class Fault(Exception):
    """An error's class and its what."""


MOVES = {
    "colon": {":": "moves"}, "moves": {"-": "ended", "NAME": "head"}, "head": {"NUMBER": "moved"},
    "move": {"NAME": "head"}, "state": {"INDEX": "colon"},
}
BOOK = dict(MOVES, **{
    "begin": {"INDEX": "colon"}, "moved": {",": "move", ";": "state", "END": "done"},
    "ended": {";": "state", "END": "done"},
})
STORE = dict(MOVES, **{
    "begin": {"-": "only", "NAME": "equals"}, "only": {"END": "done"}, "equals": {"=": "begin book"},
    "begin book": {"INDEX": "colon"}, "moved": {",": "move", ";": "state", "|": "another", "END": "done"},
    "ended": {";": "state", "|": "another", "END": "done"}, "another": {"NAME": "equals"},
})
TALK = {
    "begin": {"NAME": "unit", "(": "begin"},
    "unit": {"NAME": "unit", "(": "begin", ")": "unit", "*": "unit", "?": "unit", "|": "begin", "END": "done"},
}
LAYING = {
    "begin": {"wires": "many"}, "many": {"NUMBER": "ended"}, "ended": {";": "place", "END": "done"},
    "place": {"INDEX": "at"}, "at": {"at": "goes"}, "goes": {"NUMBER": "colon"}, "colon": {":": "steps"},
    "steps": {"-": "ended", "NAME": "head"}, "step": {"NAME": "head"}, "head": {"NUMBER": "bracket"},
    "bracket": {"(": "lot"}, "lot": {"NUMBER": "lot", ")": "stepped"},
    "stepped": {",": "step", ";": "place", "END": "done"},
}
SCRIPT = {
    "begin": {"-": "only", "say": "name", "come": "wire", "answer": "told"}, "only": {"END": "done"},
    "name": {"NAME": "told"}, "wire": {"NUMBER": "told"}, "told": {",": "row", "END": "done"},
    "row": {"say": "name", "come": "wire", "answer": "told"},
}
WINDOW = {"NUMBER": "over", "none": "over"}
SESSION = dict(BOOK, **TALK)
SESSION.update({
    "begin": dict.fromkeys(("back", "again", "rows", "laying", "greatest", "answer", "told", "said", "rest"), "over"),
    "over": {"END": "done"}, "one name": {"NAME": "over"}, "name": {"NAME": "window"}, "window": WINDOW,
    "number": {"NUMBER": "over"}, "open": {"NUMBER": "manner", "none": "manner"},
    "manner": {"plain": "over", "sooner": "over"}, "talk": {"NAME": "talk equals"}, "talk equals": {"=": "chain"},
    "book": {"NAME": "book equals"}, "book equals": {"=": "begin book"}, "begin book": {"INDEX": "colon"},
    "chain": {"NAME": "unit", "(": "chain"}, "unit": dict(TALK["unit"], **{"(": "chain", "|": "chain"}),
})
SESSION["begin"].update({"talk": "talk", "book": "book", "come": "number", "open": "open", "why": "window"})
SESSION["begin"].update(dict.fromkeys(("drop", "show", "from", "say"), "one name"))
SESSION["begin"].update(dict.fromkeys(("least", "lasting", "make"), "name"))
TABLES = {"book": BOOK, "store": STORE, "talk": TALK, "laying": LAYING, "script": SCRIPT, "session": SESSION}


class Walk:
    """The way of a text through a table, with all that the questions need."""

    def __init__(self, kind, text, names=()):
        if not isinstance(text, str):
            raise Fault(BadText, -1)
        for index, sign in enumerate(text):
            if index >= 20000 or not 32 <= ord(sign) <= 126:
                raise Fault(BadText, index)
        self.kind, self.given = kind, names
        self.depth = self.names = self.signs = self.index = self.rows = self.moves = 0
        self.found, self.standing, self.books, self.heads = set(), set(), [], []
        # The words of the book that is read, what has been read of books, and all steps through the table.
        self.part, self.told, self.read = [], [], []
        state = "begin"
        for word, place in plain_words(text):
            key = self.key(TABLES[kind][state], word)
            if key is None:
                raise Fault(BadText, place)
            self.ask(state, key, word, place)
            self.part.append(word)
            self.read.append((state, word, place))
            state = TABLES[kind][state][key]

    def key(self, row, word):
        """How the word can stand here, None if it cannot."""
        if word == "":
            return "END" if "END" in row and self.depth == 0 else None
        if word == ")" and self.depth == 0 and self.kind != "laying":
            return None
        if "INDEX" in row and word == str(self.index):
            return "INDEX"
        if "NAME" in row and plain_name(word):
            return "NAME"
        if "NUMBER" in row and plain_number(word):
            return "NUMBER"
        return word if word in row and word not in ("NAME", "NUMBER", "INDEX", "END") else None

    def ask(self, state, key, word, place):
        """The questions that belong to the word."""
        talk = state in ("chain", "unit") or (self.kind == "talk" and state == "begin")
        if key == "INDEX":
            if self.kind != "laying" and self.index == 8:
                raise Fault(TooMany, place)
            if self.index == 0:
                self.part = []
            self.index += 1
            self.moves, self.standing = 0, set()
        elif state in ("moves", "move") and key == "NAME":
            self.moves += 1
            if self.moves > 5 or (word not in self.found and len(self.found) == 20):
                raise Fault(TooMany, place)
            self.stands_twice(word, place)
            self.found.add(word)
        elif state in ("steps", "step") and key == "NAME" or state == "name" and self.kind == "script":
            if word not in self.given:
                raise Fault(NoName, place)
            if self.kind == "laying":
                self.stands_twice(word, place)
        elif state == "head" and self.kind != "laying":
            self.heads.append((word, place))
        elif talk:
            self.ask_of_talk(key, word, place)
        elif self.kind == "script" and state in ("begin", "row") and word != "-":
            self.rows += 1
            if self.rows > 400:
                raise Fault(TooMany, place)
        elif self.kind == "store" and key == "NAME":
            if len(self.books) == 20:
                raise Fault(TooMany, place)
            if word in self.books:
                raise Fault(Twice, place)
            self.books.append(word)
        if state in ("moved", "ended") and key in ("|", "END") and self.kind != "laying":
            self.end_book()

    def stands_twice(self, word, place):
        if word in self.standing:
            raise Fault(Twice, place)
        self.standing.add(word)

    def ask_of_talk(self, key, word, place):
        if key == "NAME":
            self.names += 1
            if self.names > 12:
                raise Fault(TooMany, place)
        elif key in ("*", "?"):
            self.signs += 1
            if self.signs > 12:
                raise Fault(TooMany, place)
        elif key == "(":
            self.depth += 1
            if self.depth > 30:
                raise Fault(TooDeep, place)
        elif key == ")":
            self.depth -= 1

    def end_book(self):
        """What is asked of the whole book."""
        for word, place in self.heads:
            if int(word) >= self.index:
                raise Fault(NoState, place)
        self.told.append(plain_book(self.part))
        self.index, self.heads, self.found = 0, [], set()


def plain_book(words):
    """The names and the book of the words of a book in which each word can stand."""
    names = tuple(sorted({word for word in words if plain_name(word)}))
    book = []
    for state in " ".join(words).split(";"):
        moves = state.split(":")[1].replace("-", "").split(",")
        pairs = [move.split() for move in moves if move.strip()]
        book.append(tuple(sorted((names.index(name), int(to)) for name, to in pairs)))
    reached, ahead = {0}, [0]
    while ahead:
        for _, to in book[ahead.pop()]:
            if to not in reached:
                reached.add(to)
                ahead.append(to)
    for state in range(len(book)):
        if state not in reached:
            raise Fault(Stray, state)
    return names, tuple(book)


def plain_laying(words, names, book):
    """The laying of words in which each one can stand; BadLaying by the words of [14.7] and [3.2]."""
    head, *parts = " ".join(words).split(";")
    wires, places = int(head.split()[1]), []
    for part in parts:
        steps = {}
        for step in part.split(":")[1].replace("-", "").split(","):
            if step.strip():
                name, to, numbers = re.fullmatch(r" *(\w+) (\w+) \(([\d ]*)\) *", step).groups()
                steps[names.index(name)] = (int(to), tuple(map(int, numbers.split())))
        places.append((int(part.split()[2]), steps))
    if wires > 6 or not 1 <= len(places) <= 2000:
        raise Fault(BadLaying, -1)
    out = []
    for p, (state, steps) in enumerate(places):
        if state >= len(book) or (p == 0 and state) or sorted(steps) != [m for m, _ in book[state]]:
            raise Fault(BadLaying, p)
        for message, to_state in book[state]:
            to, lot = steps[message]
            if to >= len(places) or places[to][0] != to_state or len(lot) != wires:
                raise Fault(BadLaying, p)
        out.append((state, tuple(steps[m] for m, _ in book[state])))
    return wires, tuple(out)


def plain_talk(words):
    """The names and the talk of words in which each one can stand: the innermost brackets are read first."""
    names = tuple(sorted({word for word in words if plain_name(word)}))
    parts = [("say", names.index(word)) if plain_name(word) else word for word in words]
    while "(" in parts:
        last = max(k for k, part in enumerate(parts) if part == "(")
        behind = parts.index(")", last)
        parts[last:behind + 1] = [flat_talk(parts[last + 1:behind])]
    return names, flat_talk(parts)


def flat_talk(parts):
    """The talk of parts without brackets."""
    chains = [[]]
    for part in parts:
        if part == "|":
            chains.append([])
        elif part in ("*", "?"):
            chains[-1][-1] = ("any" if part == "*" else "maybe", chains[-1][-1])
        else:
            chains[-1].append(part)
    talks = [chain[0] if len(chain) == 1 else ("row", tuple(chain)) for chain in chains]
    return talks[0] if len(talks) == 1 else ("or", tuple(talks))


def plain_script(words, names):
    """The script of words in which each one can stand."""
    script = []
    for row in " ".join(words).split(","):
        kind, *rest = row.split()
        if kind != "-":
            script.append((kind,) + tuple(names.index(word) if kind == "say" else int(word) for word in rest))
    return tuple(script)


def told(function, *args):
    """What the function returns, or the class and the what of the error that it or a plain reader raises."""
    try:
        return function(*args)
    except Refused as refusal:
        return type(refusal), refusal.what
    except Fault as fault:
        return fault.args


def joined(words, source):
    """A text of the words: with no blank that is not needed, with one between all, or with many."""
    kind = source.below(3)
    text = " " * source.below(4) if kind == 2 else ""
    before = ""
    for word in words:
        needed = before.isalnum() and word.isalnum()
        if before and (kind == 1 or needed):
            text += " "
        text += word
        if kind == 2:
            text += " " * source.below(3)
        before = word if not (kind == 2 and text.endswith(" ")) else ""
    return text


def changed(words, source):
    """Rows of words that are made from the given ones: at each place one is put in, taken out, doubled, exchanged."""
    yield list(words)
    for k in range(len(words) + 1):
        for _ in range(3):
            yield words[:k] + [POOL[source.below(len(POOL))]] + words[k:]
        if k < len(words):
            yield words[:k] + words[k + 1:]
            yield words[:k] + [words[k]] + words[k:]
            yield words[:k] + [POOL[source.below(len(POOL))]] + words[k + 1:]
            other = source.below(len(words))
            turned = list(words)
            turned[k], turned[other] = turned[other], turned[k]
            yield turned
        yield words[:k]
        yield words[k:]

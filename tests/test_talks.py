"""[14.5], [14.6], [14.9] to [14.11] and neverfour.talks."""

import time
import unittest

from neverfour.books import made_book
from neverfour.errors import BadNames, BadText, TooDeep, TooMany, Unlike, Wide
from neverfour.likes import least_book
from neverfour.talks import book_of, print_talk, read_talk

from tests.case import ODD, Case, Source, rows_up_to
from tests.test_booktexts import NAMES, drawn_names
from tests.texts import Walk, changed, joined, plain_talk, plain_words, told

SAY = tuple(("say", k) for k in range(13))


def plain_read_talk(text):
    """What read_talk tells, by the plain reader."""
    walk = Walk("talk", text)
    return plain_talk([word for _, word, _ in walk.read if word])


def plain_print(names, talk):
    """The words of a talk, by [14.5]."""
    kind, inner = talk
    if kind == "say":
        return [names[inner]]
    if kind in ("any", "maybe"):
        words = plain_print(names, inner)
        return (["("] + words + [")"] if inner[0] in ("row", "or") else words) + ["*" if kind == "any" else "?"]
    words = []
    for part in inner:
        words += ["|"] if words and kind == "or" else []
        inside = plain_print(names, part)
        around = part[0] == "or" or (part[0] == "row" and kind == "row")
        words += ["("] + inside + [")"] if around else inside
    return words


class Talker:
    """Draws talks of at most so many sayings and signs."""

    def __init__(self, source, sayings, signs, messages):
        self.source = source
        self.sayings, self.signs, self.messages = sayings, signs, messages

    def talk(self, sayings):
        """A talk of just so many sayings."""
        kind = self.source.below(6)
        if kind < 2 and self.signs > 0:
            self.signs -= 1
            return (("any", "maybe")[kind], self.talk(sayings))
        if sayings == 1:
            return ("say", self.messages[self.source.below(len(self.messages))])
        parts = []
        left = sayings
        while left:
            many = 1 + self.source.below(left if parts else left - 1)
            parts.append(self.talk(many))
            left -= many
        return (("row", "or")[self.source.below(2)], tuple(parts))


def drawn_talk(source, sayings, signs, messages):
    return Talker(source, sayings, source.below(signs + 1), messages).talk(1 + source.below(sayings))


def bracketed(words, source):
    """The words of a talk with brackets put around names, and around all, where they change nothing."""
    out = []
    for word in words:
        many = source.below(3) if word.isalnum() else 0
        out += ["("] * many + [word] + [")"] * many
    return ["("] * 2 + out + [")"] * 2


def plain_sayings(talk, most):
    """The whole sayings, and the beginnings of sayings, of at most so many messages."""
    kind, inner = talk
    if kind == "say":
        return {(inner,)} if most else set(), {(), (inner,)} if most else {()}
    if kind == "or":
        both = [plain_sayings(part, most) for part in inner]
        return set().union(*[whole for whole, _ in both]), set().union(*[begun for _, begun in both])
    if kind == "row":
        whole, begun = {()}, {()}
        for part in inner:
            more, ahead = plain_sayings(part, most)
            begun |= {one + two for one in whole for two in ahead if len(one + two) <= most}
            whole = {one + two for one in whole for two in more if len(one + two) <= most}
        return whole, begun
    more, ahead = plain_sayings(inner, most)
    whole = {()} | more if kind == "maybe" else {()}
    while kind == "any":
        longer = whole | {one + two for one in whole for two in more if len(one + two) <= most}
        if longer == whole:
            break
        whole = longer
    if kind == "maybe":
        return whole, ahead | {()}
    return whole, {one + two for one in whole for two in ahead if len(one + two) <= most}


def plain_states(talk):
    """The book of the beginnings by what is left to be said: sets of rows of talks, put together where rows are alike."""
    def first(left):
        if not left:
            return set()
        (kind, inner), rest = left[0], left[1:]
        if kind == "say":
            return {(inner, rest)}
        if kind == "row":
            return first(inner + rest)
        if kind == "or":
            return set().union(*[first((part,) + rest) for part in inner])
        again = (left[0],) + rest if kind == "any" else rest
        said = {(message, ahead + again) for message, ahead in first((inner,))}
        return said | first(rest)

    start = frozenset([(talk,)])
    order, moves = [start], {}
    for state in order:
        ahead = {}
        for left in state:
            for message, behind in first(left):
                ahead.setdefault(message, set()).add(behind)
        moves[state] = {message: frozenset(behind) for message, behind in ahead.items()}
        order.extend(to for to in dict.fromkeys(moves[state].values()) if to not in moves and to not in order)
    kind = {state: 0 for state in order}
    while True:
        signs = {s: tuple(sorted((m, kind[to]) for m, to in moves[s].items())) for s in order}
        numbers = {sign: k for k, sign in enumerate(dict.fromkeys(signs[s] for s in order))}
        if len(numbers) == len(set(kind.values())):
            break
        kind = {s: numbers[signs[s]] for s in order}
    met, book = [start], []
    for state in met:
        pairs = []
        for message in sorted(moves[state]):
            to = moves[state][message]
            if kind[to] not in [kind[other] for other in met]:
                met.append(to)
            pairs.append((message, [kind[other] for other in met].index(kind[to])))
        book.append(tuple(pairs))
    return tuple(book)


class ReadTalk(Case):

    def test_examples(self):
        found = (('go', 'off', 'stop'), ('row', (('any', ('or', (('say', 0), ('say', 2)))), ('maybe', ('say', 1)))))
        self.same(read_talk("(go|stop)* off?"), found)
        self.same(read_talk(text="(go|stop)* off?"), found)
        self.same(read_talk("a (b c) | ((d))"), (
            ('a', 'b', 'c', 'd'), ('or', (('row', (('say', 0), ('row', (('say', 1), ('say', 2))))), ('say', 3)))))
        self.refuses(BadText, 3, read_talk, "a |")
        self.refuses(BadText, 2, read_talk, "a )")
        self.refuses(BadText, 2, read_talk, "a 1")
        self.refuses(BadText, 0, read_talk, "*")

    def test_forms(self):
        a, b, c = SAY[:3]
        for text, talk in (
            ("a", a), ("((a))", a), ("a b", ("row", (a, b))), ("(a b)", ("row", (a, b))), ("a|b", ("or", (a, b))),
            ("a|b|c", ("or", (a, b, c))), ("a|(b|c)", ("or", (a, ("or", (b, c))))), ("a b|c", ("or", (("row", (a, b)), c))),
            ("a(b|c)", ("row", (a, ("or", (b, c))))), ("a(b c)", ("row", (a, ("row", (b, c))))), ("a*", ("any", a)),
            ("a?", ("maybe", a)), ("a*?", ("maybe", ("any", a))), ("a**", ("any", ("any", a))),
            ("a b*", ("row", (a, ("any", b)))), ("(a b)*", ("any", ("row", (a, b)))), ("(a*)", ("any", a)),
            ("(a)(b)?c", ("row", (a, ("maybe", b), c))), ("a|b c|a", ("or", (a, ("row", (b, c)), a))),
            ("a a", ("row", (a, a))), ("((a b) c)", ("row", (("row", (a, b)), c))), ("(a|b)|c", ("or", (("or", (a, b)), c))),
        ):
            names = tuple(sorted(set(text) & set("abc")))
            self.same(read_talk(text), (names, talk))
            self.same(read_talk(" " + " ".join(text.replace(" ", "")) + " "), (names, talk))

    def test_numbers_of_names(self):
        self.same(read_talk("z y x"), (("x", "y", "z"), ("row", (("say", 2), ("say", 1), ("say", 0)))))
        self.same(read_talk("b b a1 b"), (("a1", "b"), ("row", (("say", 1), ("say", 1), ("say", 0), ("say", 1)))))

    def test_twelve_names_and_one_more(self):
        twelve = " ".join(["a"] * 12)
        self.same(read_talk(twelve), (("a",), ("row", (("say", 0),) * 12)))
        self.refuses(TooMany, 24, read_talk, twelve + " a")
        self.refuses(TooMany, 25, read_talk, twelve + "| a +")
        self.refuses(TooMany, 26, read_talk, "(a|b)c(a|b)c(a|b)c(a|b)c (a|b)c")
        self.same(read_talk(" ".join("abcdefghijkl"))[0], tuple("abcdefghijkl"))
        self.refuses(TooMany, 24, read_talk, " ".join("abcdefghijklm"))
        self.refuses(BadText, 24, read_talk, twelve + " 1")

    def test_twelve_signs_and_one_more(self):
        self.same(read_talk("a" + "*" * 12)[0], ("a",))
        self.refuses(TooMany, 13, read_talk, "a" + "*" * 13)
        self.refuses(TooMany, 13, read_talk, "a" + "?" * 13)
        self.refuses(TooMany, 13, read_talk, "a" + "*?" * 6 + "?")
        self.same(read_talk("a*?" * 6)[0], ("a",))
        self.refuses(TooMany, 19, read_talk, "a*?" * 6 + "a*")
        self.refuses(TooMany, 16, read_talk, "(a?" + "*" * 11 + "b)*")

    def test_thirty_brackets_and_one_more(self):
        self.same(read_talk("(" * 30 + "a" + ")" * 30), (("a",), SAY[0]))
        self.refuses(TooDeep, 30, read_talk, "(" * 31 + "a" + ")" * 31)
        self.refuses(TooDeep, 30, read_talk, "(" * 31)
        self.refuses(BadText, 30, read_talk, "(" * 30)
        # Brackets that are closed are not open any more.
        self.same(read_talk("(a)" * 5 + "(" * 28 + "((b)|(c))" + ")" * 28), (
            ("a", "b", "c"), ("row", (SAY[0],) * 5 + (("or", SAY[1:3]),))))
        self.refuses(TooDeep, 32, read_talk, "a " + "(" * 31)
        self.refuses(TooDeep, 39, read_talk, "(a)" * 3 + "(" * 31)

    def test_signs(self):
        self.refuses(BadText, -1, read_talk, None)
        self.refuses(BadText, 1, read_talk, "a\n")
        self.refuses(BadText, 20000, read_talk, "a" + " " * 20000)
        self.same(read_talk("a" + " " * 19999), (("a",), SAY[0]))
        self.refuses(BadText, 0, read_talk, "")
        self.refuses(BadText, 5, read_talk, " " * 5)
        for thing in ODD:
            if not isinstance(thing, str):
                self.refuses(BadText, -1, read_talk, thing)

    def test_wrong_words(self):
        for text, place in (
            ("|", 0), (")", 0), ("?", 0), ("()", 1), ("(a", 2), ("a||b", 2), ("(|a)", 1), ("a(", 2), ("a |*", 3), ("(*a)", 1),
            ("a-b", 1), ("a;", 1), ("say", 0), ("a none", 2), ("a 0", 2), ("a (b | ) c", 7), ("(a))", 3), ("a=b", 1),
        ):
            self.refuses(BadText, place, read_talk, text)

    def test_each_wrong_word(self):
        source = Source(131)
        seen = {}
        for k in range(80):
            words = plain_print(drawn_names(source, 4), drawn_talk(source, 12, 12, range(4)))
            if k % 3 == 0:
                words = bracketed(words, source)
            for more in changed(words, source):
                text = joined(more, source)
                found = told(read_talk, text)
                self.same(found, told(plain_read_talk, text))
                seen[found[0] if isinstance(found[0], type) else None] = True
        self.assertEqual(set(seen), {None, BadText, TooMany})

    def test_words_of_any_kind(self):
        source = Source(132)
        pool = ["a", "b", "a", "(", "(", ")", "*", "?", "|", "c", ")", "-"]
        for k in range(6000):
            text = joined([pool[source.below(12)] for _ in range(source.below(14))], source)
            self.same(told(read_talk, text), told(plain_read_talk, text))


class PrintTalk(Case):

    def test_examples(self):
        talk = ('row', (('any', ('or', (('say', 0), ('say', 2)))), ('maybe', ('say', 1))))
        self.same(print_talk(("go", "off", "stop"), talk), "( go | stop ) * off ?")
        self.same(print_talk(talk=SAY[1], names=("a", "b")), "b")

    def test_brackets(self):
        a, b, c = SAY[:3]
        row, choice = ("row", (a, b)), ("or", (a, b))
        for talk, text in (
            (row, "a b"), (choice, "a | b"), (("row", (row, c)), "( a b ) c"), (("row", (c, choice)), "c ( a | b )"),
            (("or", (row, c)), "a b | c"), (("or", (c, choice, row)), "c | ( a | b ) | a b"), (("any", row), "( a b ) *"),
            (("maybe", choice), "( a | b ) ?"), (("any", ("maybe", a)), "a ? *"), (("any", ("any", row)), "( a b ) * *"),
            (("row", (("any", row), ("maybe", c))), "( a b ) * c ?"), (("or", (("any", choice), a)), "( a | b ) * | a"),
        ):
            self.same(print_talk(("a", "b", "c"), talk), text)

    def test_read_back(self):
        source = Source(133)
        for k in range(500):
            names = drawn_names(source, 1 + source.below(12))
            talk = drawn_talk(source, 12, 12, range(len(names)))
            text = print_talk(names, talk)
            self.same(text, " ".join(plain_print(names, talk)))
            self.same([word for word, _ in plain_words(text)[:-1]], text.split(" "))
            used, back = read_talk(text)
            self.same(print_talk(used, back), text)
            if used == names:
                self.same(back, talk)

    def test_brackets_that_leave_no_trace(self):
        source = Source(134)
        for k in range(200):
            talk = drawn_talk(source, 12, 12, range(3))
            words = plain_print(("a", "b", "c"), talk)
            self.same(told(read_talk, joined(bracketed(words, source), source)), read_talk(" ".join(words)))

    def test_unlike(self):
        self.refuses(Unlike, 0, print_talk, (), SAY[0])
        self.refuses(Unlike, 0, print_talk, ("a", "b"), ("row", (SAY[0], ("maybe", ("or", (SAY[1], SAY[2]))))))
        self.refuses(Unlike, 0, print_talk, NAMES, ("any", ("say", 20)))
        self.refuses(Unlike, 0, print_talk, NAMES, ("say", 99))
        self.same(print_talk(NAMES, ("any", ("say", 19))), "n9 *")

    def test_what_is_checked_first(self):
        self.refuses(BadNames, -1, print_talk, None, SAY[0])
        self.refuses(BadNames, 1, print_talk, ("b", "a"), SAY[5])


class BookOf(Case):

    def test_examples(self):
        talk = ('row', (('any', ('or', (('say', 0), ('say', 2)))), ('maybe', ('say', 1))))
        self.same(book_of(talk), (((0, 0), (1, 1), (2, 0)), ()))
        self.same(book_of(talk=("any", ("row", (("say", 0), ("say", 1))))), (((0, 1),), ((1, 0),)))

    def test_small_talks(self):
        a, b, c = SAY[:3]
        for talk, book in (
            (a, (((0, 1),), ())), (("any", a), (((0, 0),),)), (("maybe", a), (((0, 1),), ())),
            (("row", (a, b)), (((0, 1),), ((1, 2),), ())), (("row", (a, a)), (((0, 1),), ((0, 2),), ())),
            (("or", (a, b)), (((0, 1), (1, 1)), ())), (("or", (a, a)), (((0, 1),), ())),
            (("or", (a, ("row", (a, b)))), (((0, 1),), ((1, 2),), ())), (("row", (("any", a), a)), (((0, 0),),)),
            (("row", (("maybe", a), ("maybe", b), ("maybe", c))), (((0, 1), (1, 2), (2, 3)), ((1, 2), (2, 3)), ((2, 3),), ())),
            (("any", ("any", ("maybe", a))), (((0, 0),),)), (("say", 99), (((99, 1),), ())),
            (("any", ("row", (("maybe", a), ("maybe", b)))), (((0, 0), (1, 0)),)),
            (("row", (("any", ("or", (a, b))), c, ("any", c))), (((0, 0), (1, 0), (2, 1)), ((2, 1),))),
        ):
            self.same(book_of(talk), book)

    def test_against_short_sayings(self):
        source = Source(135)
        small = 0
        for k in range(250):
            talk = drawn_talk(source, 1 + source.below(7), 6, (0, 1, 2, 50, 99))
            found = told(book_of, talk)
            if isinstance(found[0], type):
                continue
            small += 1
            made_book(found)
            self.same(least_book(found), found)
            _, begun = plain_sayings(talk, 5)
            self.same(sorted(begun), sorted(row for row, _ in rows_up_to(found, 5)))
        self.assertGreater(small, 200)

    def test_against_what_is_left_to_be_said(self):
        source = Source(136)
        seen = {}
        for k in range(500):
            talk = drawn_talk(source, 12, 8, range(3 + source.below(8)))
            book = plain_states(talk)
            if len(book) > 8:
                found = (TooMany, len(book))
            else:
                wide = [s for s, moves in enumerate(book) if len(moves) > 5]
                found = (Wide, wide[0]) if wide else book
            self.same(told(book_of, talk), found)
            seen[found[0] if isinstance(found[0], type) else None] = True
        self.assertEqual(set(seen), {None, TooMany, Wide})

    def test_eight_states_and_nine(self):
        for many in range(1, 8):
            self.same(len(book_of(("row", SAY[:many]) if many > 1 else SAY[0])), many + 1)
        for many in range(8, 13):
            self.refuses(TooMany, many + 1, book_of, ("row", SAY[:many]))
        self.refuses(TooMany, 9, book_of, ("row", (("say", 0),) * 8))

    def test_five_messages_and_six(self):
        self.same(book_of(("or", SAY[:5])), (tuple((m, 1) for m in range(5)), ()))
        self.refuses(Wide, 0, book_of, ("or", SAY[:6]))
        self.refuses(Wide, 0, book_of, ("any", ("or", SAY[:12])))
        self.refuses(Wide, 1, book_of, ("row", (("say", 0), ("or", SAY[:6]))))
        # By meeting, the state behind 0 comes ahead of the one behind 1, though it stands last in the text.
        six, other = ("or", SAY[:6]), ("or", SAY[6:12])
        self.refuses(Wide, 1, book_of, ("row", (("or", (SAY[12], SAY[0])), six)))
        self.refuses(Wide, 2, book_of, ("or", (("row", (SAY[0], SAY[0], SAY[0])), ("row", (SAY[1], other)))))
        self.refuses(Wide, 2, book_of, ("or", (("row", (SAY[1], six)), ("row", (SAY[0], SAY[0])))))

    def test_too_many_states_come_ahead_of_too_many_messages(self):
        self.refuses(TooMany, 9, book_of, ("row", (("or", SAY[:6]),) + SAY[:6] + (SAY[7],)))
        self.refuses(Wide, 0, book_of, ("row", (("or", SAY[:6]),) + SAY[:6]))

    def test_in_good_time(self):
        a, b, c = SAY[:3]
        either = ("or", (a, b))
        begun = time.monotonic()
        # Which of the last messages was a: with so many of them the book needs twice as many states each time.
        self.refuses(TooMany, 33, book_of, ("row", (("any", either), a, either, either, either, either, c)))
        for talk in (
            ("any", ("row", tuple(("maybe", say) for say in SAY[:11]))),
            ("row", tuple(("any", say) for say in SAY[:12])),
            ("any", ("or", tuple(("any", say) for say in (a, b) * 5))),
            ("row", (("any", a),) * 12), ("row", (("maybe", a),) * 12), ("row", (("maybe", a), ("any", b)) * 6),
        ):
            told(book_of, talk)
        self.refuses(TooMany, 13, book_of, ("row", (("maybe", a),) * 12))
        self.assertLess(time.monotonic() - begun, 20)


if __name__ == "__main__":
    unittest.main()

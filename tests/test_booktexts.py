"""[14] to [14.4], [14.9] to [14.11] and neverfour.booktexts."""

import unittest

from neverfour.booktexts import made_names, print_book, read_book
from neverfour.errors import BadBook, BadNames, BadText, NoState, Stray, TooMany, Twice, Unlike

from tests.case import ENDING, ODD, Case, Source, nested
from tests.texts import KEPT, SIGNS, Walk, changed, joined, plain_words, told

NAMES = tuple(sorted(f"n{k}" for k in range(20)))
# What is no name, each in another way.
NO_NAMES = KEPT + SIGNS + (
    "", "1", "1a", "A", "aB", "a b", " a", "a ", "a_b", "a-b", "abcdefghijklm", "a" * 10000, "a\n", "\u00e4", "a\u00e4",
    "\u0430", "a.b", "\t", "\x7f", None, True, False, 0, 5, (), ("a",), [], ["a"], nested(17, "a"),
)


def plain_read_book(text):
    """What read_book tells, by the plain reader."""
    return Walk("book", text).told[0]


def plain_print(names, book):
    """The words of a book, by the grammar."""
    words = []
    for state, moves in enumerate(book):
        words += [str(state), ":"]
        for message, to in moves:
            words += [names[message], str(to), ","]
        words = words[:-1] if moves else words + ["-"]
        words.append(";")
    return words[:-1]


def drawn_names(source, many):
    """So many names, ascending."""
    found = set()
    while len(found) < many:
        letters = "abcdefghijklmnopqrstuvwxyz0123456789"
        word = letters[source.below(26)] + "".join(letters[source.below(36)] for _ in range(source.below(12)))
        if word not in KEPT:
            found.add(word)
    return tuple(sorted(found))


class MadeNames(Case):

    def test_names(self):
        for names in (
            (), ("data", "shut"), ("a",), ("a", "aa", "b"), ("a0", "a1", "aa"), ("z", "z0"), NAMES, ("abcdefghijkl",),
            ("wire", "wires1"), ("a00000000000",), ("nones",), ("book", "plain", "talk"),
        ):
            self.same(made_names(names), names)
            self.same(made_names(thing=names), names)

    def test_how_many(self):
        self.same(made_names(NAMES), NAMES)
        self.refuses(BadNames, -1, made_names, NAMES + ("z",))
        self.refuses(BadNames, -1, made_names, (None,) * 21)
        for thing in (None, True, 0, "", "abc", [], ["a"], nested(3, "a")):
            self.refuses(BadNames, -1, made_names, thing)

    def test_the_first_wrong_one(self):
        for thing in NO_NAMES:
            self.refuses(BadNames, 0, made_names, (thing,))
            self.refuses(BadNames, 2, made_names, ("a", "b", thing, "c", None))
            self.refuses(BadNames, 19, made_names, NAMES[:19] + (thing,))
        self.refuses(BadNames, 1, made_names, ("b", "a", 0))
        self.refuses(BadNames, 1, made_names, ("b", "b", "a"))
        self.refuses(BadNames, 2, made_names, ("a", "b", "a"))
        # Figures are ahead of letters, and a name is ahead of those that it begins.
        self.refuses(BadNames, 1, made_names, ("aa", "a1"))
        self.refuses(BadNames, 1, made_names, ("aa", "a"))


class ReadBook(Case):

    def test_examples(self):
        self.same(read_book("0:shut 1,data 0;1:-"), (("data", "shut"), (((0, 0), (1, 1)), ())))
        self.same(read_book(" 0 : - "), ((), ((),)))
        self.same(read_book(text="0:a 0"), (("a",), (((0, 0),),)))
        self.refuses(BadText, 0, read_book, "")
        self.refuses(BadText, 8, read_book, "0: a 0; 2: -")
        self.refuses(BadText, 3, read_book, "0: at 0")
        self.refuses(NoState, 5, read_book, "0: a 1")
        self.refuses(Twice, 8, read_book, "0: a 0, a 0")
        self.refuses(Stray, 1, read_book, "0: -; 1: -")

    def test_signs(self):
        for sign in ("\x1f", "\x7f", "\t", "\n", "\r", "\x00", "\u00e4", "\u00a0", "\u4e00", "\U0001f600", "\x85"):
            self.refuses(BadText, 0, read_book, sign)
            self.refuses(BadText, 6, read_book, "0: a 0" + sign)
            # The signs are looked at ahead of the words.
            self.refuses(BadText, 9, read_book, "7 + ( 1a " + sign)
        self.refuses(BadText, 0, read_book, "~")
        self.refuses(BadText, 0, read_book, "\x1f\x7f")
        for thing in ODD + (5, b"0: -", ("0: -",)):
            if not isinstance(thing, str):
                self.refuses(BadText, -1, read_book, thing)

    def test_how_long_a_text_may_be(self):
        text = "0: a 0" + " " * 19994
        self.same(read_book(text), (("a",), (((0, 0),),)))
        self.same(read_book(" " * 19994 + "0: a 0"), (("a",), (((0, 0),),)))
        self.refuses(BadText, 20000, read_book, text + " ")
        self.refuses(BadText, 20000, read_book, text + "\n")
        self.refuses(BadText, 20000, read_book, "+" * 50000)
        self.refuses(BadText, 19999, read_book, text[:-1] + "\n" + " ")
        self.refuses(BadText, 0, read_book, "a" * 20000)
        self.refuses(BadText, 0, read_book, "1" * 20000)
        self.refuses(BadText, 20000, read_book, " " * 20000)
        self.refuses(BadText, 20000, read_book, " " * 20001)

    def test_names_and_numbers(self):
        self.same(read_book("0: abcdefghijkl 0"), (("abcdefghijkl",), (((0, 0),),)))
        self.same(read_book("0: plain 0, b00 0"), (("b00", "plain"), (((0, 0), (1, 0)),)))
        for word in ("abcdefghijklm", "0a", "A", "wires", "at", "say", "come", "answer", "none", "0", "=", "_"):
            self.refuses(BadText, 3, read_book, "0: " + word + " 0")
        for word in ("1" * 61, "00", "01", "007", "a", "+1", "-"):
            self.refuses(BadText, 5, read_book, "0: a " + word)
        # A number of 60 figures can stand, and is no state.
        self.refuses(NoState, 5, read_book, "0: a " + "9" * 60)
        self.refuses(BadText, 66, read_book, "0: a " + "9" * 60 + " 1")

    def test_states(self):
        for many in range(1, 9):
            text = ";".join(f"{s}:a {min(s + 1, many - 1)}" for s in range(many))
            self.same(read_book(text), (("a",), tuple(((0, min(s + 1, many - 1)),) for s in range(many))))
        text = ";".join(f"{s}:a {s + 1}" for s in range(8)) + ";"
        self.refuses(BadText, len(text), read_book, text)
        self.refuses(TooMany, len(text), read_book, text + "8:-")
        self.refuses(TooMany, len(text), read_book, text + "8 + +")
        self.refuses(BadText, len(text), read_book, text + "9:-")
        self.refuses(BadText, 0, read_book, "1: -")
        self.refuses(BadText, 0, read_book, "00: -")

    def test_moves(self):
        self.same(read_book("0:a 0,b 0,c 0,d 0,e 0")[1], (tuple((m, 0) for m in range(5)),))
        self.refuses(TooMany, 22, read_book, "0:a 0,b 0,c 0,d 0,e 0,f 0")
        # The sixth move, also where its name stood before.
        self.refuses(TooMany, 22, read_book, "0:a 0,b 0,c 0,d 0,e 0,a 0")
        self.refuses(BadText, 22, read_book, "0:a 0,b 0,c 0,d 0,e 0,1 0")
        self.same(read_book("0: b 1, a 0; 1: a 0, b 1"), (("a", "b"), (((0, 0), (1, 1)), ((0, 0), (1, 1)))))

    def test_twenty_names_and_one_more(self):
        texts = [f"{s}: " + ", ".join(f"{name} {(s + 1) % 5}" for name in NAMES[4 * s:4 * s + 4]) for s in range(5)]
        self.same(read_book("; ".join(texts))[0], NAMES)
        more = "; ".join(texts) + ", "
        self.refuses(TooMany, len(more), read_book, more + "zz 0")
        # A name that is not new can stand, at a state where it did not stand before.
        self.same(read_book(more + "n0 0")[0], NAMES)
        self.refuses(Twice, len(more), read_book, more + NAMES[16] + " 0")

    def test_two_faults_at_once(self):
        # The first word at which something is wrong.
        self.refuses(Twice, 7, read_book, "0: a 9,a +")
        self.refuses(BadText, 8, read_book, "0: a 9, +")
        self.refuses(BadText, 10, read_book, "0: a 9, b ;")
        # What is asked of the whole comes at the end: the first move, then the states.
        self.refuses(NoState, 5, read_book, "0: a 7, b 8; 1: -")
        self.refuses(NoState, 10, read_book, "0: b 0, a 8; 1: c 9")
        self.refuses(Stray, 1, read_book, "0: a 0; 1: a 2; 2: a 1")
        self.refuses(Stray, 2, read_book, "0: a 1; 1: -; 2: a 3; 3: -")
        self.refuses(BadText, 12, read_book, "0: a 0; 1: -, b 0")

    def test_each_wrong_word(self):
        source = Source(121)
        seen = {}
        for k in range(60):
            book = source.book(4, 3, 5)
            words = plain_print(drawn_names(source, 5), book)
            for more in changed(words, source):
                text = joined(more, source)
                found = told(read_book, text)
                self.same(found, told(plain_read_book, text))
                seen[found[0] if isinstance(found[0], type) else None] = True
        self.assertEqual(set(seen), {None, BadText, Twice, NoState, Stray})

    def test_words_of_any_kind(self):
        source = Source(122)
        pool = ["0", "1", "2", ":", ":", ";", ",", "-", "a", "b", "c"]
        for k in range(6000):
            text = joined(["0", ":"][:source.below(3)] + [pool[source.below(11)] for _ in range(source.below(12))], source)
            self.same(told(read_book, text), told(plain_read_book, text))

    def test_words_without_blanks(self):
        self.assertEqual(plain_words("ab1-c"), [("ab1", 0), ("-", 3), ("c", 4), ("", 5)])
        self.refuses(BadText, 4, read_book, "0:a0")
        self.refuses(BadText, 4, read_book, "0:a ;0")
        self.refuses(BadText, 4, read_book, "0:a 0b")
        self.refuses(BadText, 3, read_book, "0:a\"0")


class PrintBook(Case):

    def test_examples(self):
        self.same(print_book(("data", "shut"), ENDING), "0: data 0, shut 1; 1: -")
        self.same(print_book(book=((),), names=()), "0: -")
        self.same(print_book(("a", "b"), ((),)), "0: -")

    def test_against_the_words(self):
        source = Source(123)
        for k in range(200):
            book = source.book(8, 5, 20)
            names = drawn_names(source, 20)
            text = print_book(names, book)
            words = plain_words(text)
            self.same([word for word, _ in words[:-1]], plain_print(names, book))
            plain = " ".join(plain_print(names, book))
            self.same(text, plain.replace(" ;", ";").replace(" :", ":").replace(" ,", ","))

    def test_read_back(self):
        source = Source(124)
        for k in range(300):
            book = source.book(8, 5, 1 + source.below(20))
            used = sorted({m for state in book for m, _ in state})
            names = drawn_names(source, 20)
            text = print_book(names, book)
            number = {m: k for k, m in enumerate(used)}
            back = tuple(tuple((number[m], to) for m, to in state) for state in book)
            self.same(read_book(text), (tuple(names[m] for m in used), back))
            # What is read is printed as the same text.
            self.same(print_book(*read_book(text)), text)

    def test_all_names_stand(self):
        source = Source(125)
        for k in range(100):
            book = source.book(6, 4, 4)
            used = sorted({m for state in book for m, _ in state})
            if used == list(range(len(used))):
                names = drawn_names(source, len(used))
                self.same(read_book(print_book(names, book)), (names, book))

    def test_the_greatest_book(self):
        long = tuple(f"abcdefghij{chr(97 + k)}z" for k in range(20))
        book = tuple(tuple(((s * 5 + m) % 20, (s + 1) % 8) for m in range(5)) for s in range(8))
        book = tuple(tuple(sorted(state)) for state in book)
        self.same(read_book(print_book(long, book)), (long, book))

    def test_unlike(self):
        self.refuses(Unlike, 0, print_book, (), (((0, 0),),))
        self.refuses(Unlike, 0, print_book, ("a",), (((0, 0), (1, 0)),))
        self.refuses(Unlike, 0, print_book, NAMES, (((20, 0),),))
        self.refuses(Unlike, 0, print_book, NAMES, (((99, 0),),))
        self.same(print_book(NAMES, (((19, 0),),)), "0: n9 0")

    def test_what_is_checked_first(self):
        self.refuses(BadNames, -1, print_book, None, None)
        self.refuses(BadNames, 0, print_book, ("A",), None)
        self.refuses(BadBook, -1, print_book, (), None)
        self.refuses(BadBook, 0, print_book, (), (((5, 1),),))
        self.refuses(Stray, 1, print_book, (), ((), ((5, 0),)))
        for thing in ODD:
            with self.assertRaises(BadNames):
                print_book(("x", thing), ((),))
            if thing != ((),):
                with self.assertRaises(ValueError):
                    print_book((), thing)


if __name__ == "__main__":
    unittest.main()

"""[14.7], [14.9] to [14.11] and neverfour.layingtexts."""

import unittest

from neverfour.errors import BadBook, BadLaying, BadNames, BadText, NoName, Refused, Stray, TooMany, Twice, Unlike
from neverfour.layingtexts import print_laying, read_laying
from neverfour.makers import make

from tests.case import ENDING, ODD, Case, Source, turns
from tests.test_booktexts import NAMES, drawn_names
from tests.test_worlds import BITS, ONE
from tests.texts import Walk, changed, joined, plain_laying, plain_words, told

DATA = ("data", "shut")
SIMPLE = (2, ((0, ((0, (1, 0)), (1, (0, 2)))), (1, ())))
TEXT = "wires 2; 0 at 0: data 0 (1 0), shut 1 (0 2); 1 at 1: -"
END = ((),)
NONE = (0, ((0, ()),))


def plain_read_laying(names, book, text):
    """What read_laying tells of good names and a good book, by the plain reader."""
    walk = Walk("laying", text, names)
    return plain_laying([word for _, word, _ in walk.read if word], names, book)


def plain_print(names, book, laying):
    """The words of a laying, by the grammar."""
    words = ["wires", str(laying[0])]
    for p, (state, moves) in enumerate(laying[1]):
        words += [";", str(p), "at", str(state), ":"]
        for (message, _), (to, lot) in zip(book[state], moves):
            words += [names[message], str(to), "("] + [str(number) for number in lot] + [")", ","]
        words = words[:-1] if moves else words + ["-"]
    return words


def shuffled(words, source):
    """The words with the steps of each place in another order."""
    places = " ".join(words).split(" ; ")
    out = [places[0]]
    for place in places[1:]:
        head, steps = place.split(" : ")
        left, order = steps.split(" , "), []
        while left:
            order.append(left.pop(source.below(len(left))))
        out.append(head + " : " + " , ".join(order))
    return " ; ".join(out).split()


class ReadLaying(Case):

    def test_examples(self):
        text = "wires 2; 0 at 0: shut 1 (0 2), data 0 (1 0); 1 at 1: -"
        self.same(read_laying(DATA, ENDING, text), SIMPLE)
        self.same(read_laying(text=text, book=ENDING, names=DATA), SIMPLE)
        self.refuses(BadLaying, -1, read_laying, ("a",), END, "wires 2")

    def test_small_layings(self):
        self.same(read_laying((), END, "wires 0;0 at 0:-"), NONE)
        self.same(read_laying((), END, "wires 6;0 at 0:-"), (6, ((0, ()),)))
        self.same(read_laying(("x",), (((0, 0),),), "wires 0;0 at 0:x 0()"), (0, ((0, ((0, ()),)),)))
        self.same(read_laying(NAMES, ONE, "wires 1;0 at 0:" + NAMES[4] + " 0(7)"), (1, ((0, ((0, (7,)),)),)))
        great = "9" * 60
        self.same(read_laying(("x",), (((0, 0),),), f"wires 1;0 at 0:x 0({great})"), (1, ((0, ((0, (int(great),)),)),)))

    def test_against_the_words(self):
        source = Source(141)
        for k in range(150):
            book = source.book(5, 4, 8)
            names = drawn_names(source, 8 + source.below(13))
            laying = source.laying(book, source.below(7), 1 + source.below(9), 1 + source.below(200))
            words = plain_print(names, book, laying)
            self.same(read_laying(names, book, joined(words, source)), laying)
            self.same(read_laying(names, book, joined(shuffled(words, source), source)), laying)

    def test_each_wrong_word(self):
        source = Source(142)
        seen = {}
        for k in range(40):
            book = source.book(3, 3, 4)
            names = drawn_names(source, 4)
            if k % 2:
                names = ("a", "b", "data", "x1")
            laying = source.laying(book, source.below(3), 1 + source.below(3), 3)
            for more in changed(plain_print(names, book, laying), source):
                text = joined(more, source)
                found = told(read_laying, names, book, text)
                self.same(found, told(plain_read_laying, names, book, text))
                seen[found[0] if isinstance(found[0], type) else None] = True
        self.assertEqual(set(seen), {None, BadText, NoName, Twice, BadLaying})

    def test_words_of_any_kind(self):
        source = Source(143)
        pool = ["0", "1", "2", "at", "a", "b", "(", ")", ":", ";", ",", "-", "1", "0"]
        begin = ["wires", "1", ";", "0", "at", "0", ":", "a", "0", "(", "1", ")"]
        for k in range(6000):
            words = begin[:source.below(13)] + [pool[source.below(14)] for _ in range(source.below(9))]
            text = joined(words, source)
            for book in (BITS, ENDING):
                found = told(read_laying, ("a", "b"), book, text)
                self.same(found, told(plain_read_laying, ("a", "b"), book, text))

    def test_wrong_words(self):
        for text, place in (
            ("", 0), ("wire 2", 0), ("wires", 5), ("wires x", 6), ("wires 2 3", 8), ("wires 2;", 8), ("wires 2; 1 at 0: -", 9),
            ("wires 2; 00 at 0: -", 9), ("wires 2; 0 on 0: -", 11), ("wires 2; 0 at -: -", 14), ("wires 2; 0 at 0 -", 16),
            ("wires 2; 0 at 0:", 16), ("wires 2; 0 at 0: - , data", 19), ("wires 2; 0 at 0: data (1 0)", 22),
            ("wires 2; 0 at 0: data 0 1", 24), ("wires 2; 0 at 0: data 0 (1, 0)", 26), ("wires 2; 0 at 0: data 0 (1", 26),
            ("wires 2; 0 at 0: data 0 (1 0) -", 30), ("wires 2; 0 at 0: data 0 (1 0),", 30), ("wires 02", 6),
            ("wires 2; 0 at 0: data 0 (01 0)", 25), ("wires 2; 0 at 0: data 0 (1 " + "9" * 61 + ")", 27), ("none", 0),
            ("wires 2; 0 at 0: none 0 ()", 17), ("wires 2 | 0", 8),
        ):
            self.refuses(BadText, place, read_laying, DATA, ENDING, text)

    def test_names_of_steps(self):
        self.refuses(NoName, 17, read_laying, DATA, ENDING, "wires 2; 0 at 0: dat 0 (1 0), shut +")
        self.refuses(NoName, 17, read_laying, (), END, "wires 2; 0 at 0: a 0 (1 0)")
        # A name that is not there is told of as often as it stands.
        self.refuses(NoName, 31, read_laying, DATA, ENDING, "wires 2; 0 at 0: data 0 (1 0), x 0 (), x 0 ()")
        self.refuses(Twice, 31, read_laying, DATA, ENDING, "wires 2; 0 at 0: data 0 (1 0), data 1 (1 0), x +")
        # At another place of the laying it may stand again.
        text = "wires 1; 0 at 0: data 1 (1), shut 2 (2); 1 at 0: data 0 (3), shut 2 (4); 2 at 1: -"
        self.same(read_laying(DATA, ENDING, text)[1][1], (0, ((0, (3,)), (2, (4,)))))

    def test_wrong_places(self):
        good = "0 at 0: data 0 (1 0), shut 1 (0 2); 1 at 1: -"
        for text, what in (
            ("wires 2", -1), ("wires 7; " + good, -1), ("wires " + "9" * 60, -1), ("wires 7; 0 at 9: -", -1),
            ("wires 3; " + good, 0), ("wires 2; 0 at 1: -; 1 at 0: -", 0), ("wires 2; 0 at 5: -", 0),
            ("wires 2; 0 at 0: -", 0), ("wires 2; 0 at 0: data 0 (1 0); 1 at 1: -", 0),
            ("wires 2; 0 at 0: data 0 (1 0), shut 1 (0 2); 1 at 2: -", 0), ("wires 2; " + good + "; 2 at 2: -", 2),
            ("wires 2; " + good + "; 2 at " + "9" * 60 + ": -", 2), ("wires 2; " + good + "; 2 at 1: data 0 (1 1)", 2),
            ("wires 2; 0 at 0: data 1 (1 0), shut 0 (0 2); 1 at 1: -", 0), ("wires 2; 0 at 0: data 0 (1), shut 1 (0 2); 1 at 1: -", 0),
            ("wires 2; 0 at 0: data 0 (1 0), shut " + "9" * 60 + " (0 2); 1 at 1: -", 0),
            ("wires 2; " + good + "; 2 at 0: data 0 (1 0), shut 0 (1 1); 3 at 0: -", 2),
            ("wires 2; " + good + "; 2 at 0: data 3 (1 0), shut 1 (1 1); 3 at 0: -", 3),
        ):
            self.refuses(BadLaying, what, read_laying, DATA, ENDING, text)
        # Names that are there, and not those of the state; an item goes with its state whatever else it is.
        three = ("data", "more", "shut")
        book = (((0, 0), (2, 1)), ())
        self.refuses(BadLaying, 0, read_laying, three, book, "wires 1; 0 at 0: data 0 (1), more 1 (2); 1 at 1: -")
        text = "wires 1; 0 at 0: data 1 (1), shut 2 (2); 1 at 0: data 0 (1), more 2 (2); 2 at 1: -"
        self.refuses(BadLaying, 1, read_laying, three, book, text)
        self.refuses(BadLaying, 0, read_laying, three, book, text.replace("(1), shut 2 (2)", "(1), shut 1 (2)"))

    def test_messages_without_a_name(self):
        book = (((5, 0),),)
        self.refuses(BadLaying, 0, read_laying, ("a",), book, "wires 1; 0 at 0: a 0 (1)")
        self.refuses(BadLaying, 0, read_laying, (), book, "wires 1; 0 at 0: -")

    def test_two_faults_at_once(self):
        # The words come ahead of what is asked of the whole.
        self.refuses(BadText, 19, read_laying, DATA, ENDING, "wires 9; 0 at 5: - +")
        self.refuses(NoName, 17, read_laying, DATA, ENDING, "wires 9; 0 at 5: a 0 ()")
        self.refuses(Twice, 26, read_laying, DATA, ENDING, "wires 9; 0 at 5: data 9(),data 0()")

    def test_how_long_a_text_may_be(self):
        text = TEXT + " " * (20000 - len(TEXT))
        self.same(read_laying(DATA, ENDING, text), SIMPLE)
        self.refuses(BadText, 20000, read_laying, DATA, ENDING, text + " ")
        self.refuses(BadText, 3, read_laying, DATA, ENDING, "+++\n")

    def test_what_is_checked_first(self):
        self.refuses(BadNames, -1, read_laying, None, None, None)
        self.refuses(BadNames, 0, read_laying, ("at",), None, None)
        self.refuses(BadBook, -1, read_laying, (), None, None)
        self.refuses(Stray, 1, read_laying, (), ((), ()), None)
        self.refuses(BadText, -1, read_laying, (), END, None)
        for thing in ODD:
            if not isinstance(thing, str):
                self.refuses(BadText, -1, read_laying, DATA, ENDING, thing)


class PrintLaying(Case):

    def test_example(self):
        self.same(print_laying(DATA, ENDING, SIMPLE), TEXT)
        self.same(print_laying(laying=SIMPLE, book=ENDING, names=DATA), TEXT)

    def test_small_layings(self):
        self.same(print_laying((), END, NONE), "wires 0; 0 at 0: -")
        self.same(print_laying(("x",), (((0, 0),),), (0, ((0, ((0, ()),)),))), "wires 0; 0 at 0: x 0 ()")

    def test_against_the_words_and_read_back(self):
        source = Source(144)
        for k in range(200):
            book = source.book(6, 5, 20)
            names = drawn_names(source, 20)
            laying = source.laying(book, source.below(7), 1 + source.below(12), (1, 9, 10 ** 59)[source.below(3)])
            text = print_laying(names, book, laying)
            words = plain_print(names, book, laying)
            self.same([word for word, _ in plain_words(text)[:-1]], words)
            plain = " ".join(words)
            for sign in ";:,)":
                plain = plain.replace(" " + sign, sign)
            self.same(text, plain.replace("( ", "("))
            self.same(read_laying(names, book, text), laying)

    def test_made_layings(self):
        for book, window in ((BITS, 1), (BITS, 2), (ENDING, 3), (END, 1), (ENDING, 2)):
            laying = make(book, window)
            self.same(read_laying(DATA, book, print_laying(DATA, book, laying)), laying)

    def test_long_texts(self):
        laying = turns(1000)
        text = print_laying(DATA, ENDING, laying)
        self.assertGreater(len(text), 20000)
        self.same([word for word, _ in plain_words(text)[:-1]], plain_print(DATA, ENDING, laying))
        self.refuses(BadText, 20000, read_laying, DATA, ENDING, text)
        laying = turns(200)
        text = print_laying(DATA, ENDING, laying)
        self.assertLess(len(text), 20000)
        self.same(read_laying(DATA, ENDING, text), laying)

    def test_numbers_of_sixty_figures_and_of_one_more(self):
        for number in (10 ** 60 - 1, 10 ** 59):
            laying = (2, ((0, ((0, (number, 0)),)),))
            text = print_laying(NAMES[:5], ONE, laying)
            self.same(text, f"wires 2; 0 at 0: {NAMES[4]} 0 ({number} 0)")
            self.same(read_laying(NAMES[:5], ONE, text), laying)
        for number in (10 ** 60, 10 ** 61, 10 ** 5000):
            self.refuses(TooMany, 0, print_laying, NAMES[:5], ONE, (2, ((0, ((0, (0, number)),)),)))
            # Unlike comes first.
            self.refuses(Unlike, 0, print_laying, NAMES[:4], ONE, (2, ((0, ((0, (0, number)),)),)))
        # Also where no row comes.
        self.refuses(TooMany, 0, print_laying, NAMES, ONE, (1, ((0, ((0, (1,)),)), (0, ((0, (10 ** 60,)),)))))

    def test_unlike(self):
        self.refuses(Unlike, 0, print_laying, ("data",), ENDING, SIMPLE)
        self.refuses(Unlike, 0, print_laying, NAMES, (((99, 0),),), (0, ((0, ((0, ()),)),)))

    def test_what_is_checked_first(self):
        self.refuses(BadNames, -1, print_laying, None, None, None)
        self.refuses(BadNames, 0, print_laying, ("",), None, None)
        self.refuses(BadBook, -1, print_laying, (), None, None)
        self.refuses(BadLaying, -1, print_laying, (), ENDING, None)
        self.refuses(BadLaying, 0, print_laying, (), ENDING, (2, ((0, ()),)))
        for thing in ODD:
            with self.assertRaises(Refused):
                print_laying(DATA, ENDING, thing)


if __name__ == "__main__":
    unittest.main()

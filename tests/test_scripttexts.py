"""[14.8] to [14.11] and neverfour.scripttexts."""

import unittest

from neverfour.errors import BadNames, BadScript, BadText, NoName, TooMany, Unlike
from neverfour.scripttexts import print_script, read_script

from tests.case import ODD, Case, Source
from tests.test_booktexts import NAMES, drawn_names
from tests.test_scripts import NO_ROWS
from tests.texts import Walk, changed, joined, plain_script, plain_words, told

DATA = ("data", "shut")


def plain_read_script(names, text):
    """What read_script tells of good names, by the plain reader."""
    walk = Walk("script", text, names)
    return plain_script([word for _, word, _ in walk.read if word], names)


def plain_print(names, script):
    """The words of a script, by the grammar."""
    words = []
    for deed in script:
        words += [",", deed[0]] + [names[part] if deed[0] == "say" else str(part) for part in deed[1:]]
    return words[1:] or ["-"]


def drawn_script(source, many, messages, most):
    """A script of so many rows."""
    deeds = [("answer",), ("say", source.below(messages)), ("come", source.below(most))]
    script = []
    for _ in range(many):
        deeds[1:] = [("say", source.below(messages)), ("come", source.below(most))]
        script.append(deeds[source.below(3)])
    return tuple(script)


class ReadScript(Case):

    def test_examples(self):
        found = (("say", 0), ("come", 0), ("answer",))
        self.same(read_script(DATA, "say data, come 0,answer"), found)
        self.same(read_script(text="say data, come 0,answer", names=DATA), found)
        self.refuses(NoName, 4, read_script, ("a",), "say b")

    def test_the_empty_script(self):
        for text in ("-", " - ", "   -"):
            self.same(read_script((), text), ())
        self.refuses(BadText, 0, read_script, (), "")
        self.refuses(BadText, 3, read_script, (), "   ")
        self.refuses(BadText, 2, read_script, (), "- -")
        self.refuses(BadText, 1, read_script, (), "-, answer")
        self.refuses(BadText, 8, read_script, (), "answer, -")

    def test_wrong_words(self):
        for text, place in (
            ("say", 3), ("say 0", 4), ("come", 4), ("come data", 5), ("come 00", 5), ("answer 0", 7), ("data", 0), ("answer,", 7),
            (", answer", 0), ("answer; answer", 6), ("answer answer", 7), ("say say", 4), ("say at", 4), ("come -", 5),
            ("Say data", 0), ("say data data", 9), ("come " + "1" * 61, 5), ("say abcdefghijklm", 4), ("say none", 4), ("tell", 0),
        ):
            self.refuses(BadText, place, read_script, DATA, text)

    def test_numbers(self):
        self.same(read_script((), "come " + "9" * 60), (("come", 10 ** 60 - 1),))
        self.same(read_script((), "come 0"), (("come", 0),))

    def test_two_faults_at_once(self):
        self.refuses(NoName, 4, read_script, DATA, "say dat, come +")
        self.refuses(BadText, 9, read_script, DATA, "say data x, say y")
        self.refuses(NoName, 16, read_script, DATA, "say data, say   x, say y")
        self.refuses(NoName, 4, read_script, (), "say abc")

    def test_four_hundred_rows_and_one_more(self):
        text = ",".join(["answer"] * 400)
        self.same(read_script((), text), (("answer",),) * 400)
        for row in ("answer", "say +", "come", "say x"):
            self.refuses(TooMany, len(text) + 1, read_script, (), text + "," + row)
        self.refuses(BadText, len(text) + 1, read_script, (), text + ",")
        self.refuses(BadText, len(text) + 1, read_script, (), text + ",-")
        text = ",".join(["say data"] * 400)
        self.same(read_script(DATA, text), (("say", 0),) * 400)
        self.refuses(TooMany, len(text) + 2, read_script, DATA, text + " ,say data")

    def test_how_long_a_text_may_be(self):
        text = "answer" + " " * 19994
        self.same(read_script((), text), (("answer",),))
        self.refuses(BadText, 20000, read_script, (), text + ",")
        self.refuses(BadText, 6, read_script, (), "answer\t")

    def test_each_wrong_word(self):
        source = Source(151)
        seen = {}
        for k in range(60):
            names = ("a", "b", "data", "x1") if k % 2 else drawn_names(source, 4)
            for more in changed(plain_print(names, drawn_script(source, source.below(6), 4, 9)), source):
                text = joined(more, source)
                found = told(read_script, names, text)
                self.same(found, told(plain_read_script, names, text))
                seen[found[0] if found and isinstance(found[0], type) else None] = True
        self.assertEqual(set(seen), {None, BadText, NoName})

    def test_what_is_checked_first(self):
        self.refuses(BadNames, -1, read_script, None, None)
        self.refuses(BadNames, 1, read_script, ("a", "a"), None)
        self.refuses(BadText, -1, read_script, (), None)
        for thing in ODD:
            if not isinstance(thing, str):
                self.refuses(BadText, -1, read_script, DATA, thing)


class PrintScript(Case):

    def test_examples(self):
        self.same((print_script(("data",), ()), print_script(("data",), (("say", 0), ("answer",)))), ("-", "say data, answer"))
        self.same(print_script(script=(("come", 7),), names=()), "come 7")

    def test_against_the_words_and_read_back(self):
        source = Source(152)
        for k in range(200):
            names = drawn_names(source, 20)
            script = drawn_script(source, source.below(30), 20, (2, 10 ** 60)[source.below(2)])
            text = print_script(names, script)
            self.same([word for word, _ in plain_words(text)[:-1]], plain_print(names, script))
            self.same(text, " ".join(plain_print(names, script)).replace(" ,", ","))
            self.same(read_script(names, text), script)

    def test_four_hundred_rows(self):
        for deed in (("say", 0), ("answer",), ("come", 10 ** 40)):
            text = print_script(("abcdefghijkl",), (deed,) * 400)
            if len(text) <= 20000:
                self.same(read_script(("abcdefghijkl",), text), (deed,) * 400)
        text = print_script((), (("come", 10 ** 60 - 1),) * 400)
        self.assertGreater(len(text), 20000)
        self.refuses(BadText, 20000, read_script, (), text)

    def test_unlike_and_too_many(self):
        self.refuses(Unlike, 0, print_script, (), (("say", 0),))
        self.refuses(Unlike, 0, print_script, NAMES, (("answer",), ("say", 20)))
        self.refuses(Unlike, 0, print_script, NAMES, (("say", 10 ** 5000),))
        self.same(print_script(NAMES, (("say", 19),)), "say n9")
        self.same(print_script((), (("come", 10 ** 60 - 1),)), "come " + "9" * 60)
        self.refuses(TooMany, 0, print_script, (), (("come", 10 ** 60),))
        self.refuses(TooMany, 0, print_script, (), (("come", 10 ** 5000),))
        self.refuses(Unlike, 0, print_script, (), (("come", 10 ** 60), ("say", 0)))

    def test_what_is_checked_first(self):
        self.refuses(BadNames, -1, print_script, None, None)
        self.refuses(BadScript, -1, print_script, (), None)
        self.refuses(BadScript, -1, print_script, (), (("say", 0),) * 401)
        for row in NO_ROWS:
            self.refuses(BadScript, 1, print_script, (), (("say", 0), row))


if __name__ == "__main__":
    unittest.main()

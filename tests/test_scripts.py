"""[12], [12.1], [12.2] and neverfour.scripts."""

import unittest

from neverfour.errors import BadBook, BadLaying, BadManner, BadScript, BadWindow, Nought, Refused
from neverfour.scripts import made_script, run_script
from neverfour.worlds import World

from tests.case import ENDING, ODD, Case, Source, carrying, nested, turns
from tests.test_readers import ZERO
from tests.test_worlds import BITS, ONE, PULSE, TWO, PlainWorld

# What is no row of a script, each in another way.
NO_ROWS = ODD + (
    (), ("say",), ("come",), ("answer", 0), ("say", 0, 0), ("say", -1), ("come", -1), ("say", True), ("come", False),
    ("say", None), ("say", "0"), ("come", (0,)), ["say", 0], ["answer"], "answer", "say", ("Say", 0), ("answer ",),
    ("told",), ("", 0), (0, "say"), (("say",), 0), (["answer"],), ("say", [0]), ("come", nested(17, 0)), ("answers",),
)


class MadeScript(Case):

    def test_scripts(self):
        for script in (
            (), (("say", 0),), (("come", 5),), (("answer",),), (("say", 10 ** 400), ("come", 10 ** 300), ("answer",)),
            (("answer",),) * 400, (("say", 100), ("come", 6)) * 200,
        ):
            self.same(made_script(script), script)
            self.same(made_script(thing=script), script)

    def test_the_number_of_rows(self):
        for many in (401, 402, 20001):
            self.refuses(BadScript, -1, made_script, (("answer",),) * many)
            self.refuses(BadScript, -1, made_script, (None,) * many)

    def test_what_is_no_tuple(self):
        for thing in (None, True, False, 0, 5, "", "say", [], [("answer",)], nested(3, ("answer",))):
            self.refuses(BadScript, -1, made_script, thing)

    def test_the_first_wrong_row(self):
        for row in NO_ROWS:
            self.refuses(BadScript, 0, made_script, (row,))
            self.refuses(BadScript, 2, made_script, (("answer",), ("say", 3), row, ("come", 1), None))
            self.refuses(BadScript, 399, made_script, (("answer",),) * 399 + (row,))
        self.refuses(BadScript, 0, made_script, ("say", 0))
        self.refuses(BadScript, 0, made_script, ("answer",))


class RunScript(Case):

    def test_example(self):
        script = (("say", 0), ("say", 1), ("come", 0), ("answer",), ("say", 1), ("come", 1))
        self.same(run_script(BITS, TWO, 1, "plain", script), ((0, 1), (0, 1), (1, 1), 1, (1,)))
        self.same(
            run_script(script=script, manner="plain", window=1, laying=TWO, book=BITS),
            ((0, 1), (0, 1), (1, 1), 1, (1,)),
        )

    def test_no_rows(self):
        self.same(run_script(BITS, TWO, None, "plain", ()), ((), (), (0, 0), 0, ()))
        self.same(run_script(((),), (0, ((0, ()),)), 5, "sooner", (("answer",),)), ((), (), (), 0, (0,)))

    def test_against_the_plain_way(self):
        source = Source(91)
        for k in range(200):
            book = source.book(4, 3)
            laying = carrying(source.laying(book, 1 + source.below(3), 1 + source.below(6), 2))
            manner = ("plain", "sooner")[source.below(2)]
            window = 1 + source.below(3) if manner == "sooner" else (None, 1, 2, 9)[source.below(4)]
            deeds = [("say", m) for m in range(7)] + [("come", w) for w in range(4)] * 3 + [("answer",)] * 3
            script = tuple(deeds[source.below(len(deeds))] for _ in range(60))
            plain = PlainWorld(book, laying, window, manner)
            left = []
            for index, deed in enumerate(script):
                told = getattr(plain, deed[0])(*deed[1:])
                if isinstance(told, tuple) and told and isinstance(told[0], type):
                    left.append(index)
            found = run_script(book, laying, window, manner, script)
            self.same(found, (plain.said, plain.told, tuple(plain.counts), plain.answered, tuple(left)))

    def test_just_what_the_world_refuses_is_left_out(self):
        script = (("answer",), ("come", 0), ("say", 99), ("say", 10 ** 300), ("come", 10 ** 300), ("say", 0), ("come", 2))
        self.same(run_script(BITS, TWO, 1, "plain", script), ((0,), (), (0, 0), 0, (0, 1, 2, 3, 4, 6)))
        self.same(run_script(BITS, TWO, 1, "plain", script * 2)[4], (0, 1, 2, 3, 4, 6, 7, 9, 10, 11, 12, 13))

    def test_four_hundred_rows(self):
        script = (("say", 4),) * 400
        self.same(run_script(ONE, PULSE, None, "plain", script), ((4,) * 400, (), (0,), 0, ()))
        self.same(run_script(ONE, PULSE, 5, "plain", script), ((4,) * 5, (), (0,), 0, tuple(range(5, 400))))
        script = (("say", 4), ("come", 0), ("answer",), ("answer",)) * 100
        found = run_script(ONE, PULSE, 1, "sooner", script)
        self.same(found, ((4,) * 100, (4,) * 100, (100,), 100, tuple(range(3, 400, 4))))

    def test_each_call_makes_a_new_world(self):
        for _ in range(3):
            self.same(run_script(BITS, TWO, 1, "plain", (("say", 1),)), ((1,), (), (0, 0), 0, ()))

    def test_two_thousand_places(self):
        script = (("say", 0), ("come", 0), ("come", 1), ("answer",)) * 100
        said, told, counts, answered, left = run_script(ENDING, turns(1000), 6, "sooner", script)
        self.same((said, told, sum(counts), answered), ((0,) * 100, (0,) * 100, 100, 100))

    def test_what_is_checked_first(self):
        self.refuses(BadBook, -1, run_script, None, None, 0, "x", None)
        self.refuses(BadLaying, -1, run_script, BITS, None, 0, "x", None)
        self.refuses(Nought, 1, run_script, ENDING, ZERO, 0, "x", None)
        self.refuses(BadWindow, 0, run_script, BITS, TWO, 0, "x", None)
        self.refuses(BadManner, "x", run_script, BITS, TWO, 1, "x", None)
        self.refuses(BadManner, "sooner", run_script, BITS, TWO, 7, "sooner", None)
        self.refuses(BadScript, -1, run_script, BITS, TWO, 1, "plain", None)
        self.refuses(BadScript, 1, run_script, BITS, TWO, 1, "plain", (("say", 0), ("say", -1), None))
        self.refuses(BadScript, -1, run_script, BITS, TWO, 1, "plain", (("say", 0),) * 401)

    def test_odd_scripts(self):
        for thing in ODD:
            with self.assertRaises(BadScript):
                run_script(BITS, TWO, 1, "plain", thing)
        for row in NO_ROWS:
            self.refuses(BadScript, 1, run_script, BITS, TWO, None, "plain", (("say", 0), row))

    def test_a_row_that_is_left_out_has_changed_nothing(self):
        world = World(BITS, TWO, 1, "plain")
        world.say(0)
        for deed in (("say", 1), ("answer",), ("come", 1), ("come", 7)):
            with self.assertRaises(Refused):
                getattr(world, deed[0])(*deed[1:])
        self.same((world.said(), world.away(), world.counts()), ((0,), (1, 0), (0, 0)))


if __name__ == "__main__":
    unittest.main()

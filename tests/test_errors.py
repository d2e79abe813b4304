"""[0.2] and the interface's list of errors."""

import unittest

from neverfour import errors
from neverfour.books import made_book

NAMES = (
    "BadBook", "Stray", "BadRow", "BadState", "BadMany", "TooMany", "Clash", "NoMessage", "BadLot", "Unlike",
    "BadLaying", "BadLots", "BadOrder", "BadWire", "BadWindow", "NoNumber", "BadPlace", "Same", "BadPaper",
    "HasFork", "HasLasting", "Wires", "NoFork", "NoLasting", "NoRing", "Nought", "NotRight", "BadRests",
    "BadCounts", "BadManner", "Waits", "Full", "NoPulse", "NoAnswer", "BadScript", "BadPicks", "BadTree",
    "BadHouse", "NothingToSend", "BadText", "BadNames", "Twice", "NoState", "TooDeep", "Wide", "NoName", "BadName",
    "NoBook", "Taken", "NothingBack", "NothingAgain", "NoLaying", "NoWorld",
)


class Errors(unittest.TestCase):

    def test_there_are_just_these(self):
        self.assertEqual(len(NAMES), 53)
        found = {name for name, thing in vars(errors).items() if isinstance(thing, type)}
        self.assertEqual(found, set(NAMES) | {"Refused"})

    def test_each_stands_directly_under_refused(self):
        self.assertEqual(errors.Refused.__bases__, (ValueError,))
        for name in NAMES:
            error = getattr(errors, name)
            self.assertEqual(error.__bases__, (errors.Refused,), name)
            self.assertEqual(error.__module__, "neverfour.errors")
            self.assertEqual(error.__name__, name)

    def test_each_keeps_its_argument_as_it_is(self):
        things = [-1, 0, True, None, "", "text", (), (1, "a"), [1, [2]], 10 ** 5000, object()]
        for name in NAMES + ("Refused",):
            error = getattr(errors, name)
            for thing in things:
                self.assertIs(error(thing).what, thing, name)
                self.assertIs(error(what=thing).what, thing, name)
            for wrong in ((), (1, 2)):
                with self.assertRaises(TypeError):
                    error(*wrong)

    def test_what_is_the_very_thing_that_was_handed_in(self):
        from neverfour.books import way_to
        from neverfour.forks import leads
        thing = [("x",), [0]]
        with self.assertRaises(errors.BadState) as caught:
            way_to(((),), thing)
        self.assertIs(caught.exception.what, thing)
        with self.assertRaises(errors.NoMessage) as caught:
            leads((((0, 0),),), 0, thing, 1)
        self.assertIs(caught.exception.what, thing)

    def test_all_are_caught_as_refused_and_as_value_error(self):
        for caught in (errors.Refused, ValueError, errors.BadBook):
            with self.assertRaises(caught):
                made_book(None)


if __name__ == "__main__":
    unittest.main()

"""The interface: names, arguments, where things are defined, and [0.1] for all of them."""

import importlib
import inspect
import unittest

from tests.case import Case

INTERFACE = {
    "books": {
        "made_book": ("thing",), "is_book": ("thing",), "trimmed": ("thing",), "made_row": ("book", "thing"),
        "is_row": ("book", "thing"), "state_at": ("book", "row"), "rows_from": ("book", "state", "many"),
        "way_to": ("book", "state"), "ends_of": ("book",),
    },
    "likes": {
        "least_book": ("book",), "alike": ("one", "two"), "part_row": ("one", "two"), "within": ("one", "two"),
    },
    "joining": {"behind": ("one", "two"), "beside": ("one", "two"), "less": ("book", "state", "message")},
    "lots": {"below": ("one", "two"), "plus": ("one", "two")},
    "layings": {
        "made_laying": ("book", "thing"), "is_laying": ("book", "thing"), "place_at": ("book", "laying", "row"),
        "lot_of": ("book", "laying", "row"), "met": ("book", "laying"), "seen": ("book", "laying"),
        "nought": ("book", "laying"), "simple": ("book", "wires", "lots"), "times": ("book", "laying", "many"),
        "exchanged": ("book", "laying", "order"), "wider": ("book", "laying", "wire"),
    },
    "forks": {"forks": ("book",), "leads": ("book", "state", "message", "many")},
    "windows": {
        "made_window": ("thing",), "ranks": ("book", "window"), "lasting": ("book", "window"),
        "special": ("book", "window", "state"),
    },
    "rings": {
        "knots": ("book",), "ring_forks": ("book",), "cut_rows": ("book",), "rays": ("book",), "first_fork": ("book",),
    },
    "least": {"least_wires": ("book", "window"), "from_window": ("book",), "verdict": ("book",)},
    "cover": {"soonest": ("book", "laying", "place", "a", "b")},
    "kernel": {"paper_right": ("book", "laying", "window", "thing"), "hearing": ("book", "laying", "paper")},
    "judge": {
        "right": ("book", "laying", "window"), "greatest": ("book", "laying"), "why": ("book", "laying", "window"),
        "made_paper": ("book", "laying", "window", "thing"),
    },
    "onewire": {"one_wire": ("book",)},
    "twowires": {"two_wires": ("book", "window")},
    "threewires": {"three_wires": ("book", "window")},
}

BOOK = (((0, 0), (1, 1)), ())
FREE = (((0, 1), (1, 2)), (), ((4, 2),))
LAYING = (2, ((0, ((2, (1, 0)), (1, (0, 2)))), (1, ()), (0, ((0, (0, 1)), (1, (2, 0))))))
PAPER = ("cover", (), 1, 0, (0, 1))

# A good value for each argument of each function.
GOOD = {
    "book": BOOK, "one": BOOK, "two": (((2, 0),),), "row": (0, 0, 1), "state": 0, "many": 2, "message": 1,
    "laying": LAYING, "wires": 2, "lots": (((1, 0), (0, 1)), ()), "order": (1, 0), "wire": 1, "window": 2, "place": 2,
    "a": 1, "b": 0, "paper": PAPER, "thing": BOOK,
}
# What is good for some functions only.
OWN = {
    "made_row": {"thing": (0, 1)}, "is_row": {"thing": (0, 1)}, "made_laying": {"thing": LAYING},
    "is_laying": {"thing": LAYING}, "made_window": {"thing": 3}, "below": {"one": (1, 2), "two": (3, 4)},
    "plus": {"one": (1, 2), "two": (3, 4)}, "cut_rows": {"book": FREE}, "rays": {"book": FREE},
    "first_fork": {"book": FREE}, "paper_right": {"thing": PAPER, "window": 3},
    "made_paper": {"thing": PAPER, "window": 3}, "why": {"window": 3}, "one_wire": {"book": (((7, 1),), ((3, 0),))},
}


def arguments(name, names):
    """Good values for the arguments of a function."""
    good = dict(GOOD, **OWN.get(name, {}))
    return [good[argument] for argument in names]


def kinds(thing):
    """Whether the thing is what [0.1] lets be returned, throughout."""
    if isinstance(thing, tuple):
        return type(thing) is tuple and all(kinds(item) for item in thing)
    return thing is None or type(thing) in (int, str, bool)


class Interface(Case):

    def functions(self):
        for module, names in INTERFACE.items():
            for name, names_of_arguments in names.items():
                yield module, name, getattr(importlib.import_module("neverfour." + module), name), names_of_arguments

    def test_each_is_defined_in_its_file(self):
        for module, name, function, names in self.functions():
            self.assertTrue(inspect.isfunction(function), name)
            self.assertEqual(function.__module__, "neverfour." + module, name)
            self.assertEqual(function.__name__, name)

    def test_arguments(self):
        for module, name, function, names in self.functions():
            parameters = inspect.signature(function).parameters
            self.assertEqual(tuple(parameters), names, name)
            for parameter in parameters.values():
                self.assertIs(parameter.kind, inspect.Parameter.POSITIONAL_OR_KEYWORD, name)
                self.assertIs(parameter.default, inspect.Parameter.empty, name)

    def test_by_position_and_by_name_and_again(self):
        for module, name, function, names in self.functions():
            good = arguments(name, names)
            told = function(*good)
            self.assertTrue(kinds(told), (name, told))
            self.same(function(**dict(zip(names, good))), told)
            self.same(function(*good), told)
            self.same(good, arguments(name, names))

    def test_a_list_is_no_tuple_anywhere(self):
        for module, name, function, names in self.functions():
            good = arguments(name, names)
            for k, value in enumerate(good):
                if isinstance(value, tuple):
                    wrong = good[:k] + [list(value)] + good[k + 1:]
                    if (name.startswith("is_") or name == "paper_right") and k == len(good) - 1:
                        self.assertIs(function(*wrong), False)
                    else:
                        with self.assertRaises(ValueError):
                            function(*wrong)

    def test_true_and_false_are_no_numbers_anywhere(self):
        for module, name, function, names in self.functions():
            good = arguments(name, names)
            for k, value in enumerate(good):
                if isinstance(value, int):
                    for wrong in (True, False):
                        with self.assertRaises(ValueError):
                            function(*good[:k] + [wrong] + good[k + 1:])


if __name__ == "__main__":
    unittest.main()

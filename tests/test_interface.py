"""The interface: names, arguments, where things are defined, and [0.1] for all of them."""

import importlib
import inspect
import unittest

from neverfour.errors import Refused

from tests.case import ODD, Case

INTERFACE = {
    "books": {
        "made_book": ("thing",), "is_book": ("thing",), "trimmed": ("thing",), "made_row": ("book", "thing"),
        "is_row": ("book", "thing"), "state_at": ("book", "row"), "rows_from": ("book", "state", "many"),
        "way_to": ("book", "state"), "ends_of": ("book",),
    },
    "likes": {
        "least_book": ("book",), "alike": ("one", "two"), "part_row": ("one", "two"), "within": ("one", "two"),
    },
    "joining": {"behind": ("one", "two"), "beside": ("one", "two"), "less": ("book", "state", "message")},
    "lots": {"below": ("one", "two"), "plus": ("one", "two")},
    "layings": {
        "made_laying": ("book", "thing"), "is_laying": ("book", "thing"), "place_at": ("book", "laying", "row"),
        "lot_of": ("book", "laying", "row"), "met": ("book", "laying"), "seen": ("book", "laying"),
        "nought": ("book", "laying"), "simple": ("book", "wires", "lots"), "times": ("book", "laying", "many"),
        "exchanged": ("book", "laying", "order"), "wider": ("book", "laying", "wire"),
    },
    "forks": {"forks": ("book",), "leads": ("book", "state", "message", "many")},
    "windows": {
        "made_window": ("thing",), "ranks": ("book", "window"), "lasting": ("book", "window"),
        "special": ("book", "window", "state"),
    },
    "rings": {
        "knots": ("book",), "ring_forks": ("book",), "cut_rows": ("book",), "rays": ("book",), "first_fork": ("book",),
    },
    "least": {"least_wires": ("book", "window"), "from_window": ("book",), "verdict": ("book",)},
    "cover": {"soonest": ("book", "laying", "place", "a", "b")},
    "kernel": {"paper_right": ("book", "laying", "window", "thing"), "hearing": ("book", "laying", "paper")},
    "judge": {
        "right": ("book", "laying", "window"), "greatest": ("book", "laying"), "why": ("book", "laying", "window"),
        "made_paper": ("book", "laying", "window", "thing"),
    },
    "onewire": {"one_wire": ("book",)},
    "twowires": {"two_wires": ("book", "window")},
    "threewires": {"three_wires": ("book", "window")},
    "freewires": {"free_wires": ("book",)},
    "makers": {"make": ("book", "window")},
    "breakers": {"pinch": ("book", "laying"), "fall": ("book", "laying", "window"), "again": ("book", "laying")},
    "rests": {"caps": ("book", "laying", "many")},
    "sure": {"sure": ("book", "laying", "counts")},
    "scripts": {"made_script": ("thing",), "run_script": ("book", "laying", "window", "manner", "script")},
    "runs": {"whole_run": ("book", "laying", "window", "manner", "row", "picks")},
    "costs": {
        "pulses_of": ("book", "laying", "row"), "dearest": ("book", "laying", "many"), "pace": ("book", "laying"),
    },
    "booktexts": {"made_names": ("thing",), "read_book": ("text",), "print_book": ("names", "book")},
    "talks": {"read_talk": ("text",), "print_talk": ("names", "talk"), "book_of": ("talk",)},
    "layingtexts": {"read_laying": ("names", "book", "text"), "print_laying": ("names", "book", "laying")},
    "scripttexts": {"read_script": ("names", "text"), "print_script": ("names", "script")},
    "store": {"read_store": ("text",)},
}

# The classes, what their objects are made of, and their methods.
CLASSES = {
    "readers": {"Reader": (("book", "laying"), {"hear": ("wire",), "told": (), "counts": ()})},
    "rests": {"RestReader": (("book", "laying", "window"), {"rests": (), "look": ("rests",), "told": ()})},
    "worlds": {
        "World": (("book", "laying", "window", "manner"), {
            "say": ("message",), "come": ("wire",), "answer": (), "said": (), "told": (), "counts": (), "away": (),
            "owed": (), "answered": (), "good": (), "still": (),
        }),
    },
    "trees": {
        "Tree": (("book", "parents", "layings", "windows"), {
            "say": ("message",), "send": ("house",), "come": ("house", "wire"), "answer": ("house",), "row": ("house",),
            "owed": ("house",), "away": ("house",), "good": (), "still": (),
        }),
    },
    "store": {
        "Store": ((), {
            "put": ("name", "names", "book"), "drop": ("name",), "rename": ("old", "new"), "names": (), "book": ("name",),
            "back": (), "again": (), "text": (),
        }),
    },
    "session": {"Session": ((), {"row": ("text",)})},
}
# What is done with an object ahead of a method that would be refused otherwise.
AHEAD = {
    ("World", "come"): [("say", 1)], ("World", "answer"): [("say", 1), ("come", 1), ("come", 1)],
    ("Tree", "send"): [("say", 1)], ("Tree", "come"): [("say", 1), ("send", 1)],
    ("Tree", "answer"): [("say", 1), ("send", 1), ("come", 1, 1), ("come", 1, 1)],
}
AHEAD.update({("Store", method): [("put", "till", ("a", "b"), (((0, 0), (1, 1)), ()))] for method in (
    "drop", "rename", "book", "back", "text")})
AHEAD["Store", "again"] = AHEAD["Store", "back"] + [("back",)]

BOOK = (((0, 0), (1, 1)), ())
FREE = (((0, 1), (1, 2)), (), ((4, 2),))
LAYING = (2, ((0, ((2, (1, 0)), (1, (0, 2)))), (1, ()), (0, ((0, (0, 1)), (1, (2, 0))))))
PAPER = ("cover", (), 1, 0, (0, 1))

# A good value for each argument of each function.
GOOD = {
    "book": BOOK, "one": BOOK, "two": (((2, 0),),), "row": (0, 0, 1), "state": 0, "many": 2, "message": 1,
    "laying": LAYING, "wires": 2, "lots": (((1, 0), (0, 1)), ()), "order": (1, 0), "wire": 1, "window": 2, "place": 2,
    "a": 1, "b": 0, "paper": PAPER, "thing": BOOK,
    "counts": (3, 0), "rests": (1, 1), "manner": "sooner", "script": (("say", 0), ("come", 0)), "picks": (0, 5),
    "names": ("data", "shut"), "text": "0: data 0, shut 1; 1: -", "talk": ("row", (("any", ("say", 0)), ("say", 1))),
    "parents": (0, 1), "layings": (LAYING, LAYING), "windows": (2, None), "house": 1, "name": "till", "old": "till",
    "new": "other",
}
# What is good for some functions only.
OWN = {
    "made_row": {"thing": (0, 1)}, "is_row": {"thing": (0, 1)}, "made_laying": {"thing": LAYING},
    "is_laying": {"thing": LAYING}, "made_window": {"thing": 3}, "below": {"one": (1, 2), "two": (3, 4)},
    "plus": {"one": (1, 2), "two": (3, 4)}, "cut_rows": {"book": FREE}, "rays": {"book": FREE},
    "first_fork": {"book": FREE}, "paper_right": {"thing": PAPER, "window": 3},
    "made_paper": {"thing": PAPER, "window": 3}, "why": {"window": 3}, "one_wire": {"book": (((7, 1),), ((3, 0),))},
    "free_wires": {"book": FREE}, "pinch": {"laying": (1, ((0, ((0, (2,)), (1, (1,)))), (1, ())))},
    "fall": {"book": (((0, 0), (1, 0)),), "laying": (2, ((0, ((0, (1, 0)), (0, (0, 1)))),))},
    "made_script": {"thing": (("say", 0), ("answer",))}, "made_names": {"thing": ("data", "shut")},
    "read_talk": {"text": "data* shut"}, "read_script": {"text": "say data, come 0"},
    "read_laying": {"text": "wires 1; 0 at 0: data 0 (1), shut 1 (2); 1 at 1: -"},
    "read_store": {"text": "till = 0: data 0, shut 1; 1: -"}, "Session": {"text": "rows"},
}


def arguments(name, names):
    """Good values for the arguments of a function."""
    good = dict(GOOD, **OWN.get(name, {}))
    return [good[argument] for argument in names]


def backwards(names, values):
    """The values by their names, the last one first."""
    return dict(reversed(list(zip(names, values))))


def kinds(thing):
    """Whether the thing is what [0.1] lets be returned, throughout."""
    if isinstance(thing, tuple):
        return type(thing) is tuple and all(kinds(item) for item in thing)
    return thing is None or type(thing) in (int, str, bool)


class Interface(Case):

    def functions(self):
        for module, names in INTERFACE.items():
            for name, names_of_arguments in names.items():
                yield module, name, getattr(importlib.import_module("neverfour." + module), name), names_of_arguments

    def classes(self):
        for module, told in CLASSES.items():
            for name, (names, methods) in told.items():
                yield module, name, getattr(importlib.import_module("neverfour." + module), name), names, methods

    def test_classes_and_their_methods(self):
        for module, name, made, names, methods in self.classes():
            self.assertTrue(inspect.isclass(made), name)
            self.assertEqual(made.__module__, "neverfour." + module)
            for method, told in dict(methods, __init__=names).items():
                # Each method is defined in the class itself, not only in a base class.
                self.assertIn(method, vars(made), name)
                parameters = list(inspect.signature(vars(made)[method]).parameters.values())
                self.assertEqual(tuple(parameter.name for parameter in parameters[1:]), told, (name, method))
                for parameter in parameters[1:]:
                    self.assertIs(parameter.default, inspect.Parameter.empty)

    def test_classes_by_position_and_by_name(self):
        for module, name, made, names, methods in self.classes():
            good = arguments(name, names)
            for method, told in methods.items():
                one, two = made(*good), made(**backwards(names, good))
                for ahead in AHEAD.get((name, method), ()):
                    getattr(one, ahead[0])(*ahead[1:])
                    getattr(two, ahead[0])(*ahead[1:])
                values = arguments(name, told)
                found = getattr(one, method)(*values)
                self.assertTrue(kinds(found), (name, method))
                self.same(getattr(two, method)(**backwards(told, values)), found)
            for k, value in enumerate(good):
                for wrong in (True, False) if isinstance(value, int) else (list(value),):
                    with self.assertRaises(ValueError):
                        made(*good[:k] + [wrong] + good[k + 1:])

    def test_methods_take_no_list_for_a_tuple_and_no_truth_for_a_number(self):
        for module, name, made, names, methods in self.classes():
            for method, told in methods.items():
                values = arguments(name, told)
                for k, value in enumerate(values):
                    thing = made(*arguments(name, names))
                    for ahead in AHEAD.get((name, method), ()):
                        getattr(thing, ahead[0])(*ahead[1:])
                    for wrong in (True, False) if isinstance(value, int) else (list(value),):
                        if name == "Session":
                            self.same(thing.row(wrong), "refused: BadText -1")
                            continue
                        with self.assertRaises(ValueError):
                            getattr(thing, method)(*values[:k] + [wrong] + values[k + 1:])
                    # What was refused has changed nothing, so the call is let now.
                    getattr(thing, method)(*values)

    def test_each_is_defined_in_its_file(self):
        for module, name, function, names in self.functions():
            self.assertTrue(inspect.isfunction(function), name)
            self.assertEqual(function.__module__, "neverfour." + module, name)
            self.assertEqual(function.__name__, name)

    def test_arguments(self):
        for module, name, function, names in self.functions():
            parameters = inspect.signature(function).parameters
            self.assertEqual(tuple(parameters), names, name)
            for parameter in parameters.values():
                self.assertIs(parameter.kind, inspect.Parameter.POSITIONAL_OR_KEYWORD, name)
                self.assertIs(parameter.default, inspect.Parameter.empty, name)

    def test_by_position_and_by_name_and_again(self):
        for module, name, function, names in self.functions():
            good = arguments(name, names)
            told = function(*good)
            if name == "read_store":
                self.same((told.text(), function(**backwards(names, good)).text()), (good[0], good[0]))
                continue
            self.assertTrue(kinds(told), (name, told))
            self.same(function(**dict(zip(names, good))), told)
            self.same(function(**backwards(names, good)), told)
            self.same(function(*good), told)
            self.same(good, arguments(name, names))

    def test_a_list_is_no_tuple_anywhere(self):
        for module, name, function, names in self.functions():
            good = arguments(name, names)
            for k, value in enumerate(good):
                # Nothing is promised for a talk of a wrong form.
                if isinstance(value, tuple) and names[k] != "talk":
                    wrong = good[:k] + [list(value)] + good[k + 1:]
                    if (name.startswith("is_") or name == "paper_right") and k == len(good) - 1:
                        self.assertIs(function(*wrong), False)
                    else:
                        with self.assertRaises(ValueError):
                            function(*wrong)

    def test_true_and_false_are_no_numbers_anywhere(self):
        for module, name, function, names in self.functions():
            good = arguments(name, names)
            for k, value in enumerate(good):
                if isinstance(value, int):
                    for wrong in (True, False):
                        with self.assertRaises(ValueError):
                            function(*good[:k] + [wrong] + good[k + 1:])

    def test_any_value_may_be_handed_in(self):
        # Where an error is named for an argument; nothing is promised for a talk of a wrong form.
        for module, name, function, names in self.functions():
            good = arguments(name, names)
            for k in range(len(good)):
                if names[k] != "talk":
                    self.only_refused(function, good, k)
        for module, name, made, names, methods in self.classes():
            good = arguments(name, names)
            for k in range(len(good)):
                self.only_refused(made, good, k)
            for method, told in methods.items():
                values = arguments(name, told)
                for k in range(len(values)):
                    self.only_refused(lambda *more: getattr(made(*good), method)(*more), values, k)

    def only_refused(self, function, good, k):
        """With another value as the argument k, the function raises nothing but errors of the package."""
        for thing in ODD + tuple(GOOD.values()):
            try:
                function(*good[:k] + [thing] + good[k + 1:])
            except Refused:
                pass


if __name__ == "__main__":
    unittest.main()

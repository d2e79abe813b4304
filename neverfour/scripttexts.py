"""The written form of scripts."""

from neverfour.booktexts import END, NOTHING, Words, check_figures, check_named, made_names
from neverfour.errors import NoName, TooMany
from neverfour.scripts import LONGEST_SCRIPT, made_script


def read_script(names, text):
    """The script of the text."""
    made_names(names)
    words = Words(text)
    if words.next_word() == NOTHING:
        words.take()
        words.take_one((END,))
        return ()
    script = []
    closed = ","
    while closed == ",":
        place = words.next_place()
        kind = words.take_one(("say", "come", "answer"))
        if len(script) == LONGEST_SCRIPT:
            raise TooMany(place)
        script.append(deed_part(words, names, kind))
        closed = words.take_one((",", END))
    return tuple(script)


def deed_part(words, names, kind):
    """The row of a script that begins with this word."""
    if kind == "answer":
        return ("answer",)
    if kind == "come":
        return ("come", words.take_number())
    place = words.next_place()
    name = words.take_name()
    if name not in names:
        raise NoName(place)
    return ("say", names.index(name))


def print_script(names, script):
    """The text of the script."""
    made_names(names)
    made_script(script)
    check_named(names, [deed[1] for deed in script if deed[0] == "say"])
    check_figures([deed[1] for deed in script if deed[0] == "come"])
    rows = []
    for deed in script:
        if deed[0] == "say":
            rows.append(f"say {names[deed[1]]}")
        elif deed[0] == "come":
            rows.append(f"come {deed[1]}")
        else:
            rows.append("answer")
    return ", ".join(rows) or NOTHING

"""Scripts: rows of deeds that are done in a new world."""

from neverfour.common import tuple_within, whole
from neverfour.errors import BadScript, Refused
from neverfour.worlds import World

LONGEST_SCRIPT = 400


def made_script(thing):
    """The script, or BadScript."""
    if not tuple_within(thing, 0, LONGEST_SCRIPT):
        raise BadScript(-1)
    for index in range(len(thing)):
        if not is_deed(thing[index]):
            raise BadScript(index)
    return thing


def is_deed(thing):
    """Whether the thing is a row of a script."""
    if tuple_within(thing, 1, 1):
        return thing[0] == "answer"
    return tuple_within(thing, 2, 2) and thing[0] in ("say", "come") and whole(thing[1]) and thing[1] >= 0


def run_script(book, laying, window, manner, script):
    """What is said, told, counted and answered behind the script, and the indexes of the rows that were left out."""
    world = World(book, laying, window, manner)
    made_script(script)
    left = []
    for index in range(len(script)):
        try:
            do_deed(world, script[index])
        except Refused:
            left.append(index)
    return (world.said(), world.told(), world.counts(), world.answered(), tuple(left))


def do_deed(world, deed):
    """Does what the row of a script tells, or raises what the world raises."""
    if deed[0] == "say":
        world.say(deed[1])
    elif deed[0] == "come":
        world.come(deed[1])
    else:
        world.answer()

"""Whole runs: a row is said, told and answered in an order that picks choose."""

from neverfour.books import made_row
from neverfour.common import tuple_within, whole
from neverfour.errors import BadPicks, TooMany
from neverfour.layings import lots_along, total_of
from neverfour.scripts import do_deed
from neverfour.worlds import World

MOST_PICKS = 200
LONGEST_RUN = 60
MOST_PULSES = 2000


def whole_run(book, laying, window, manner, row, picks):
    """What is told in the end, how many deeds are done, and how far at most the sender is ahead of the answers."""
    world = World(book, laying, window, manner)
    made_row(book, row)
    check_picks(picks)
    if len(row) > LONGEST_RUN:
        raise TooMany(len(row))
    pulses = sum(total_of(laying[0], lots_along(book, laying, row)))
    if pulses > MOST_PULSES:
        raise TooMany(pulses)
    turns = 0
    most = 0
    deeds = deeds_let(world, row)
    while deeds:
        do_deed(world, deeds[picks[turns % len(picks)] % len(deeds)])
        turns += 1
        most = max(most, world.link.unanswered())
        deeds = deeds_let(world, row)
    return (world.told(), turns, most)


def check_picks(picks):
    """BadPicks unless the thing is a tuple of picks."""
    if not tuple_within(picks, 1, MOST_PICKS):
        raise BadPicks(-1)
    for index in range(len(picks)):
        if not whole(picks[index]) or picks[index] < 0:
            raise BadPicks(index)


def deeds_let(world, row):
    """The deeds that are let, in their order, as rows of a script."""
    deeds = []
    done = len(world.link.sent)
    if done < len(row) and not world.link.waits():
        deeds.append(("say", row[done]))
    away = world.away()
    deeds.extend([("come", wire) for wire in range(len(away)) if away[wire] > 0])
    if world.owed() > 0:
        deeds.append(("answer",))
    return deeds

"""Layings: how many pulses each message of a book has on each wire."""

from neverfour.books import made_book, states_along
from neverfour.common import by_meeting, first_rows, tuple_within, whole, whole_within
from neverfour.errors import BadLaying, BadLots, BadMany, BadOrder, BadWire, Nought, Refused, TooMany
from neverfour.lots import lot_on, sum_of

MOST_WIRES = 6
MOST_PLACES = 2000
MOST_TIMES = 1000000


def made_laying(book, thing):
    """The laying of the book, or BadLaying."""
    made_book(book)
    check_laying(book, thing)
    return thing


def is_laying(book, thing):
    """Whether the thing is a laying of the book."""
    made_book(book)
    try:
        check_laying(book, thing)
    except Refused:
        return False
    return True


def check_laying(book, thing):
    """BadLaying unless the thing is a laying of the book."""
    if not tuple_within(thing, 2, 2):
        raise BadLaying(-1)
    wires, places = thing
    if not whole_within(wires, 0, MOST_WIRES) or not tuple_within(places, 1, MOST_PLACES):
        raise BadLaying(-1)
    states = [state_told(place) for place in places]
    for p in range(len(places)):
        state = states[p]
        if state is None or state >= len(book) or (p == 0 and state != 0):
            raise BadLaying(p)
        if not fits_state(places[p][1], book[state], wires, states):
            raise BadLaying(p)


def check_carrying(book, laying):
    """BadLaying unless the thing is a laying; Nought for the first place that rows come to with a nought lot."""
    check_laying(book, laying)
    bad = first_nought(book, laying)
    if bad is not None:
        raise Nought(bad[0])


def state_told(thing):
    """The number that an item of places names as its state, None if it names none."""
    if tuple_within(thing, 2, 2) and whole(thing[0]) and thing[0] >= 0:
        return thing[0]
    return None


def fits_state(moves, pairs, wires, states):
    """Whether the moves of a place are those of a state with these pairs; states tells the state of each place."""
    if not tuple_within(moves, len(pairs), len(pairs)):
        return False
    for move, pair in zip(moves, pairs):
        if not tuple_within(move, 2, 2):
            return False
        to, lot = move
        if not whole_within(to, 0, len(states) - 1) or states[to] != pair[1] or not lot_on(lot, wires):
            return False
    return True


def moves_of(book, laying):
    """For each place, a tuple of pairs (message, to)."""
    return [tuple([(pair[0], move[0]) for pair, move in zip(book[state], moves)]) for state, moves in laying[1]]


def lots_of(book, laying):
    """For each place, a dict of the lots of its messages."""
    return [{pair[0]: move[1] for pair, move in zip(book[state], moves)} for state, moves in laying[1]]


def steps_of(book, laying):
    """For each place, a list of tuples (message, to, lot)."""
    steps = []
    for state, moves in laying[1]:
        steps.append([(pair[0], move[0], move[1]) for pair, move in zip(book[state], moves)])
    return steps


def place_at(book, laying, row):
    """The place to which the row comes."""
    made_laying(book, laying)
    states_along(book, row)
    return places_along(book, laying, row)[-1]


def places_along(book, laying, row):
    """The places to which the beginnings of the row come, from the empty one to the whole row."""
    moves = [dict(pairs) for pairs in moves_of(book, laying)]
    places = [0]
    for message in row:
        places.append(moves[places[-1]][message])
    return places


def lot_of(book, laying, row):
    """The total of the row."""
    made_laying(book, laying)
    states_along(book, row)
    return total_of(laying[0], lots_along(book, laying, row))


def lots_along(book, laying, row):
    """The lots of the messages of the row, one behind another."""
    lots = lots_of(book, laying)
    return [lots[place][message] for place, message in zip(places_along(book, laying, row), row)]


def total_of(wires, lots):
    """The sum of lots on so many wires."""
    total = (0,) * wires
    for lot in lots:
        total = sum_of(total, lot)
    return total


def met(book, laying):
    """A pair (row, place) for each place to which rows come, with its least row, in the order of rows."""
    made_laying(book, laying)
    rows = first_rows(moves_of(book, laying))
    return tuple([(row, place) for place, row in rows.items()])


def seen(book, laying):
    """The laying of the places to which rows come, numbered in the order of met."""
    made_laying(book, laying)
    return seen_part(book, laying)


def seen_part(book, laying):
    """What seen returns, where the arguments are known to be good."""
    moves = moves_of(book, laying)
    # The order of met is that of meeting, as rows are met in the order of rows.
    pairs = by_meeting(moves)
    places = []
    for place, numbered in zip(list(first_rows(moves)), pairs):
        state, steps = laying[1][place]
        places.append((state, tuple([(pair[1], step[1]) for pair, step in zip(numbered, steps)])))
    return (laying[0], tuple(places))


def nought(book, laying):
    """The first pair (place, message) with a nought lot at a place to which rows come, None if there is none."""
    made_laying(book, laying)
    return first_nought(book, laying)


def first_nought(book, laying):
    """What nought returns, where the arguments are known to be good."""
    lots = lots_of(book, laying)
    for place in first_rows(moves_of(book, laying)):
        for message, lot in lots[place].items():
            if not any(lot):
                return (place, message)
    return None


def simple(book, wires, lots):
    """The laying whose places are the states, with these lots."""
    made_book(book)
    if not whole_within(wires, 0, MOST_WIRES):
        raise BadMany(0)
    if not tuple_within(lots, len(book), len(book)):
        raise BadLots(-1)
    for state in range(len(book)):
        many = len(book[state])
        if not tuple_within(lots[state], many, many) or not all([lot_on(lot, wires) for lot in lots[state]]):
            raise BadLots(state)
    places = []
    for state in range(len(book)):
        moves = [(pair[1], lot) for pair, lot in zip(book[state], lots[state])]
        places.append((state, tuple(moves)))
    return (wires, tuple(places))


def times(book, laying, many):
    """The laying with so many times each lot."""
    made_laying(book, laying)
    if not whole_within(many, 1, MOST_TIMES):
        raise BadMany(0)
    return changed(laying, laying[0], lambda lot: tuple([many * number for number in lot]))


def exchanged(book, laying, order):
    """The laying whose wire k is wire order[k] of the given one."""
    made_laying(book, laying)
    wires = laying[0]
    if not tuple_within(order, wires, wires) or not all([whole(k) for k in order]):
        raise BadOrder(0)
    if sorted(order) != list(range(wires)):
        raise BadOrder(0)
    return changed(laying, wires, lambda lot: tuple([lot[k] for k in order]))


def wider(book, laying, wire):
    """The laying with one more wire, with the numbers of the given one."""
    made_laying(book, laying)
    if not whole_within(wire, 0, laying[0] - 1):
        raise BadWire(wire)
    if laying[0] == MOST_WIRES:
        raise BadMany(0)
    return changed(laying, laying[0] + 1, lambda lot: lot + (lot[wire],))


def changed(laying, wires, change):
    """The laying with so many wires and with the change of each lot."""
    places = []
    for state, moves in laying[1]:
        places.append((state, tuple([(to, change(lot)) for to, lot in moves])))
    return (wires, tuple(places))


def numbered_by_meeting(first, behind):
    """The numbers of the places of a maker, by the places, which are told by tuples; or TooMany.

    behind tells of a place to which ones its messages lead, the messages rising.
    """
    numbers = {first: 0}
    order = [first]
    done = 0
    while done < len(order):
        place = order[done]
        done += 1
        for to in behind(place):
            if to not in numbers:
                if len(order) == MOST_PLACES:
                    raise TooMany(MOST_PLACES)
                numbers[to] = len(order)
                order.append(to)
    return numbers


def more_tops(places, tops):
    """The greatest number on each wire that rows from each place bring, if rows of one message less bring the tops."""
    out = []
    for wire in range(len(tops)):
        old = tops[wire]
        out.append([max([lot[wire] + old[to] for to, lot in moves], default=0) for state, moves in places])
    return out


def no_tops(places, wires):
    """What rows without messages bring."""
    return [[0] * len(places) for _ in range(wires)]


def endless_tops(places, wires, groups):
    """The greatest number on each wire that rows from each place bring, however long they are, None if none is."""
    tops = [[None] * len(places) for _ in range(wires)]
    for wire in range(wires):
        known = tops[wire]
        done = [False] * len(places)
        for group in groups:
            moves = [move for place in group for move in places[place][1]]
            inner = any([lot[wire] > 0 for to, lot in moves if not done[to]])
            outer = [(known[to], lot[wire]) for to, lot in moves if done[to]]
            top = None
            if not inner and not any([most is None for most, number in outer]):
                top = max([most + number for most, number in outer], default=0)
            for place in group:
                known[place] = top
                done[place] = True
    return tops

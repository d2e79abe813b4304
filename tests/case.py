"""What the tests share: wrong values, a check of errors, and a source of books and layings that is always the same."""

import unittest

from neverfour.errors import Refused


def nested(depth, inner):
    """The inner thing in so many tuples and lists, by turns."""
    thing = inner
    for k in range(depth):
        thing = (thing,) if k % 2 else [thing]
    return thing


# Values that [0.2] lets be handed in, none of which is a number, a book, a row, a laying or a lot of wires.
ODD = (
    None, True, False, "", "0", "book", [], [0], [()], [[]], (None,), (True,), ("",), ([],), ((0,),),
    (((0, 0),),) * 9, (((0, True),),), (((False, 0),),), [((0, 0),)], ([(0, 0)],), (([0, 0],),), ((0, 0),),
    (((0, 0, 0),),), (((0,),),), (((-1, 0),),), (((100, 0),),), (((0, 1),),), (((0, -1),),), ((("0", 0),),),
    (((0, "0"),),), (((0, None),),), (((0, ()),),), (((1, 0), (0, 0)),), (((0, 0), (0, 0)),),
    (tuple((m, 0) for m in range(6)),), nested(20, 0), nested(19, True), nested(20, ()), 10 ** 400, -(10 ** 400),
)

# What is no number from 0 to 5, whatever else it is.
NO_SMALL_NUMBER = (
    None, True, False, "", "0", "1", (), (0,), (1,), [], [0], [1], -1, 6, 10 ** 30, -(10 ** 30), nested(20, 0),
)


class Case(unittest.TestCase):
    """A test case that can ask for an error of just one class and with just one what."""

    def refuses(self, error, what, function, *args, **named):
        """The call raises just this error, with a what that is the same and of the same kind."""
        with self.assertRaises(Refused) as caught:
            function(*args, **named)
        self.assertIs(type(caught.exception), error, (function, args))
        self.assertEqual(caught.exception.what, what, (function, args))
        self.assertIs(type(caught.exception.what), type(what), (function, args))

    def same(self, one, two):
        """Both are equal, and of the same kinds throughout: a list is no tuple, and True is not 1."""
        self.assertEqual(one, two)
        self.assertEqual(repr(one), repr(two))


class Source:
    """Numbers that look like chance and are the same in each run."""

    def __init__(self, seed):
        self.state = seed * 7919 + 12345

    def below(self, many):
        """A number from 0 to many - 1."""
        self.state = (self.state * 6364136223846793005 + 1442695040888963407) % (1 << 64)
        return (self.state >> 33) % many

    def book(self, states, messages, names=6):
        """A book of at most so many states, and messages at a state, the messages below names."""
        while True:
            many = 1 + self.below(states)
            book = []
            for _ in range(many):
                standing = set()
                for _ in range(self.below(messages + 1)):
                    standing.add(self.below(names))
                book.append(tuple((m, self.below(many)) for m in sorted(standing)))
            reached, ahead = {0}, [0]
            while ahead:
                for _, to in book[ahead.pop()]:
                    if to not in reached:
                        reached.add(to)
                        ahead.append(to)
            if len(reached) == many:
                return tuple(book)

    def laying(self, book, wires, places, most):
        """A laying of the book of at least so many places, each number at most most."""
        states = [0] + [s for s in range(1, len(book))]
        while len(states) < places:
            states.append(self.below(len(book)))
        out = []
        for state in states:
            moves = []
            for _, target in book[state]:
                fitting = [p for p, s in enumerate(states) if s == target]
                lot = tuple(self.below(most + 1) for _ in range(wires))
                moves.append((fitting[self.below(len(fitting))], lot))
            out.append((state, tuple(moves)))
        return (wires, tuple(out))


def rows_up_to(book, many):
    """Each row of at most so many messages with its state, the plain way, in the order of rows."""
    out = [((), 0)]
    level = [((), 0)]
    for _ in range(many):
        level = [(row + (m,), to) for row, at in level for m, to in book[at]]
        out.extend(level)
    return out


def plain_pairs(book, laying):
    """Each (u, place, a, b) of the places that rows come to, in the order of their least rows, the plain way."""
    rows = {0: ()}
    order = [0]
    for place in order:
        for (message, _), (to, _) in zip(book[laying[1][place][0]], laying[1][place][1]):
            if to not in rows:
                rows[to] = rows[place] + (message,)
                order.append(to)
    out = []
    for place in order:
        messages = [m for m, _ in book[laying[1][place][0]]]
        out.extend((rows[place], place, a, b) for a in messages for b in messages if a != b)
    return out


def plain_cover(book, laying, place, a, b, many):
    """The least way y behind b with which by covers a, of at most so many messages; None for any number of them.

    It goes level by level through the pairs of a place and a sum that is cut at the lot of a.
    """
    def cut(one, two):
        return tuple(min(x + y, top) for x, y, top in zip(one, two, goal))

    def moves(at):
        return zip([m for m, _ in book[laying[1][at][0]]], laying[1][at][1])

    steps = dict(moves(place))
    goal = steps[a][1]
    level = {(steps[b][0], cut(steps[b][1], (0,) * len(goal))): ()}
    known = set(level)
    count = 1
    while level and (many is None or count <= many):
        ways = [way for (_, total), way in level.items() if total == goal]
        if ways:
            return min(ways)
        count += 1
        ahead = {}
        for (at, total), way in level.items():
            for message, (to, lot) in moves(at):
                pair = (to, cut(total, lot))
                if pair not in known:
                    ahead[pair] = min(ahead.get(pair, (100,)), way + (message,))
        known |= set(ahead)
        level = ahead
    return None


def plain_why(book, laying, window):
    """What why tells by the words of [7.5], for layings whose lots are small."""
    rows = {}
    for u, place, a, b in plain_pairs(book, laying):
        rows[place] = u
    best = None
    for u, place, a, b in plain_pairs(book, laying):
        # Only what has fewer messages than the best one so far can be better.
        y = plain_cover(book, laying, place, a, b, window if best is None else len(best[4]))
        if y is not None:
            best = ("cover", u, a, b, y)
    return best


def carrying(laying):
    """The laying with a pulse on the first wire wherever a lot is a lot of zeros."""
    wires, places = laying
    out = []
    for state, moves in places:
        out.append((state, tuple((to, lot if any(lot) else (1,) + lot[1:]) for to, lot in moves)))
    return (wires, tuple(out))


# Message 0 any number of times, then message 1.
ENDING = (((0, 0), (1, 1)), ())


def turns(window):
    """A laying of ENDING on two wires that is right for this window from 2 on and for no greater one."""
    half = window - 1
    places = []
    for place in range(2 * half):
        great = 2 * half - place % half
        if place < half:
            moves = (((place + 1) % (2 * half), (1, 0)), (2 * half, (0, great)))
        else:
            moves = (((place + 1) % (2 * half), (0, 1)), (2 * half, (great, 0)))
        places.append((0, moves))
    return (2, tuple(places) + ((1, ()),))

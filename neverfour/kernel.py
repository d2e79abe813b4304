"""What shows that a laying is not right: papers, checked message by message, and the pulses that they tell of."""

from neverfour.books import is_row, made_book, stands, state_at
from neverfour.common import tuple_within
from neverfour.errors import BadPaper, TooMany
from neverfour.layings import check_laying, lots_along, total_of
from neverfour.lots import lies_below
from neverfour.windows import made_window

MOST_PULSES = 5000


def paper_right(book, laying, window, thing):
    """Whether the thing is a paper for the laying and the window."""
    made_book(book)
    check_laying(book, laying)
    made_window(window)
    return shows(book, laying, window, thing)


def hearing(book, laying, paper):
    """The wires of the pulses that are heard in both worlds of a paper, in their order."""
    made_book(book)
    check_laying(book, laying)
    if not tuple_within(paper, 5, 5) or not shows(book, laying, None, paper):
        raise BadPaper(0)
    lots = lots_along(book, laying, paper[1] + (paper[2],))
    many = sum(total_of(laying[0], lots))
    if many > MOST_PULSES:
        raise TooMany(many)
    pulses = []
    for lot in lots:
        for wire in range(len(lot)):
            pulses.extend([wire] * lot[wire])
    return tuple(pulses)


def shows(book, laying, window, thing):
    """Whether the thing is a paper, where the other arguments are known to be good."""
    if tuple_within(thing, 3, 3) and thing[0] == "nought":
        return shows_nought(book, laying, thing[1], thing[2])
    if tuple_within(thing, 5, 5) and thing[0] == "cover":
        return shows_cover(book, laying, window, thing[1:])
    return False


def shows_nought(book, laying, u, a):
    """Whether u is a row behind which the message a has a lot of zeros."""
    if not is_row(book, u) or not stands(book, state_at(book, u), a):
        return False
    return not any(lots_along(book, laying, u + (a,))[-1])


def shows_cover(book, laying, window, parts):
    """Whether, for the parts (u, a, b, y), the row uby covers the row ua within the window."""
    u, a, b, y = parts
    if not isinstance(u, tuple) or not isinstance(y, tuple):
        return False
    row = u + (a,)
    longer = u + (b,) + y
    if not is_row(book, row) or not is_row(book, longer) or a == b:
        return False
    if window is not None and len(y) + 1 > window:
        return False
    wires = laying[0]
    return lies_below(total_of(wires, lots_along(book, laying, row)), total_of(wires, lots_along(book, laying, longer)))

"""A laying on the least number of wires."""

from neverfour.books import made_book
from neverfour.freewires import free_wires
from neverfour.least import least_for
from neverfour.onewire import one_wire
from neverfour.threewires import three_wires
from neverfour.twowires import two_wires
from neverfour.windows import check_small


def make(book, window):
    """A laying on the least number of wires that is right for the window."""
    made_book(book)
    if window is not None:
        check_small(window)
    wires = least_for(book, window)
    if wires == 0:
        return (0, ((0, ()),))
    if wires == 1:
        return one_wire(book)
    if window is None:
        return free_wires(book)
    if wires == 2:
        return two_wires(book, window)
    return three_wires(book, window)

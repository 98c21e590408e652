"""What papers of numbers of kinds, those of heights and those of needs, are asked alike."""

from packedforms.books import bookfault, closed_fault
from packedforms.kinds import is_tuple_of, is_whole


def row_fault(book, row, least, most):
    """The word for what is wrong with a row by itself; most is None where any number from least on may stand."""
    if not is_tuple_of(row, 2):
        return "row"
    if closed_fault(book, row[0]) is not None:
        return "kind"
    if not is_whole(row[1]) or row[1] < least:
        return "number"
    if most is not None and row[1] > most:
        return "number"
    return None


def paper_fault(book, thing, least, most):
    """The first fault of a paper, (row, why), but for what its rows say of one another."""
    if bookfault(book) is not None:
        return (0, "book")
    if not isinstance(thing, tuple):
        return (0, "paper")
    for number, row in enumerate(thing):
        why = row_fault(book, row, least, most)
        if why is not None:
            return (number, why)
    return None

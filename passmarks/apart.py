"""Rows that two words of one order make unlike rows."""

from passmarks.bounds import PLACES
from passmarks.checks import number_taken, row_fault, word_fault
from passmarks.faults import three_fault, twice_fault
from passmarks.orders import order_of
from passmarks.passes import row_behind
from passmarks.words import is_short


def short_parting(table, places):
    """A row and two short words of one order that part it, None where there are none."""
    number_taken(places, 3, PLACES)
    fault = three_fault(table)
    if fault is None:
        return None
    return (_lengthened(fault, places), (0, 1, 0), (1, 0, 1))


def any_parting(table, places):
    """A row and any two words of one order that part it, None where there are none."""
    number_taken(places, 2, PLACES)
    fault = twice_fault(table)
    if fault is not None:
        return (_lengthened(fault, places), (), (0, 0))
    return short_parting(table, places) if places > 2 else None


def shows_short_parting(table, thing):
    """Whether anything is a row, by any number of places, and two short words of one order that part it."""
    return shows_parting(table, thing) and all([is_short(len(thing[0]), word) for word in thing[1:]])


def shows_parting(table, thing):
    """Whether anything is a row, by any number of places, and two words of one order that part it."""
    if not _has_form(table, thing):
        return False
    row, one, other = thing
    if order_of(len(row), one) != order_of(len(row), other):
        return False
    return row_behind(table, row, one) != row_behind(table, row, other)


def _lengthened(row, places):
    # No pass of the told words comes to the marks behind, so these are any.
    return row + row[-1:] * (places - len(row))


def _has_form(table, thing):
    """Whether anything is a tuple of a row and two words for its places, all tuples."""
    if not isinstance(thing, tuple) or len(thing) != 3:
        return False
    if not all([isinstance(part, tuple) for part in thing]):
        return False
    row, one, other = thing
    if row_fault(table, row) is not None:
        return False
    return word_fault(len(row), one) is None and word_fault(len(row), other) is None

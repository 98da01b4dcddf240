"""What is asked of things that are handed in, whatever they are.

A fault is where a thing is wrong, -1 where it is wrong as a whole, None where it is right.
What is taken is a tuple, a number or a mark that is right; else it is refused.
"""

from passmarks.bounds import PLACES, WORD
from passmarks.errors import NoMark, NoNumber, NoOrder, NoRow, NoWord


def is_listing(thing):
    """Whether anything is a list or a tuple, which may stand for one another."""
    return isinstance(thing, (list, tuple))


def is_number(thing, least, most):
    """Whether anything is a whole number from the least to the most one."""
    return isinstance(thing, int) and not isinstance(thing, bool) and least <= thing <= most


def row_fault(table, row):
    """The first place that bears no mark of the table."""
    if not is_listing(row) or not 1 <= len(row) <= PLACES:
        return -1
    marks = table.marks()
    for at, mark in enumerate(row):
        if mark not in marks:
            return at
    return None


def word_fault(places, word):
    """The first pass that is at none of so many places, or at the last one."""
    if not is_listing(word) or len(word) > WORD:
        return -1
    for at, place in enumerate(word):
        if not is_number(place, 0, places - 2):
            return at
    return None


def order_fault(order):
    """The first runner that is none of so many, or came ahead."""
    if not is_listing(order) or not 1 <= len(order) <= PLACES:
        return -1
    for at, runner in enumerate(order):
        if not is_number(runner, 0, len(order) - 1) or runner in order[:at]:
            return at
    return None


def number_taken(thing, least, most):
    if not is_number(thing, least, most):
        raise NoNumber(thing)
    return thing


def places_taken(thing):
    return number_taken(thing, 1, PLACES)


def mark_taken(table, thing):
    if thing not in table.marks():
        raise NoMark(thing)
    return thing


def row_taken(table, row):
    at = row_fault(table, row)
    if at is not None:
        raise NoRow(at)
    return tuple(row)


def word_taken(places, word):
    at = word_fault(places, word)
    if at is not None:
        raise NoWord(at)
    return tuple(word)


def order_taken(order):
    at = order_fault(order)
    if at is not None:
        raise NoOrder(at)
    return tuple(order)

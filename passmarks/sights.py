"""What is asked of holes, their words and sightings that are handed in, whatever they are.

A fault is where a thing is wrong, -1 where it is wrong as a whole, None where it is right.
"""

from passmarks.bounds import GONE, HIDDEN, PLACES
from passmarks.checks import is_listing, is_number, word_fault
from passmarks.errors import NoRow, NoSight, NoWord

MOST_SIGHTS = 8


def holes_taken(table, holes):
    at = _holes_fault(table, holes)
    if at is not None:
        raise NoRow(at)
    return tuple(holes)


def asked_taken(table, holes, word, seen):
    """The holes, the word and the sightings of which something is asked, refused in this order."""
    row = holes_taken(table, holes)
    at = _short_word_fault(len(row), word)
    if at is not None:
        raise NoWord(at)
    number = _sights_fault(table, row, word, seen)
    if number is not None:
        raise NoSight(number)
    return row, tuple(word), list(seen)


def is_sight(table, row, word, thing):
    """Whether anything is a sighting: how many passes are gone, a place, the mark that stands there then."""
    if not isinstance(thing, tuple) or len(thing) != 3:
        return False
    passes, place, mark = thing
    return is_moment(row, word, passes, place) and mark in table.marks()


def is_moment(row, word, passes, place):
    """Whether anything is a number of first passes of a word, and a place of the row."""
    return is_number(passes, 0, len(word)) and is_number(place, 0, len(row) - 1)


def _holes_fault(table, holes):
    """The first place that bears neither a mark of the table nor a hidden one, or bears one too many of these."""
    if not is_listing(holes) or not 1 <= len(holes) <= PLACES:
        return -1
    marks = table.marks()
    hidden = 0
    for at, mark in enumerate(holes):
        if mark is None:
            hidden += 1
        elif mark not in marks:
            return at
        if hidden > HIDDEN:
            return at
    return None


def _short_word_fault(places, word):
    if is_listing(word) and len(word) > GONE:
        return -1
    return word_fault(places, word)


def _sights_fault(table, row, word, seen):
    if not is_listing(seen) or len(seen) > MOST_SIGHTS:
        return -1
    for number, sight in enumerate(seen):
        if not is_sight(table, row, word, sight):
            return number
    return None

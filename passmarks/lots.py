"""Lots of gentle tables: rows that passes lead to one another, as they exchange plain marks."""

from passmarks.checks import is_number, word_fault
from passmarks.faults import refuse_unless_gentle
from passmarks.orders import undone
from passmarks.passes import row_behind
from passmarks.plainrows import plain
from passmarks.words import told_form


def same_lot(table, one, other):
    """Whether passes lead the one row to the other."""
    return _goals(table, one, other) is not None


def fewest(table, one, other):
    """A word of fewest passes that leads the one row to the other, and who pass in it; None where none does."""
    goals = _goals(table, one, other)
    if goals is None:
        return None
    return (told_form(undone(goals)), _crossing(goals))


def shows_fewest(table, one, other, thing):
    """Whether anything is such a word with its pairs."""
    goals = _goals(table, one, other)
    if goals is None or not _has_form(len(goals), thing):
        return False
    word, pairs = thing
    if pairs != _crossing(goals) or len(word) != len(pairs):
        return False
    return row_behind(table, one, word) == tuple(other)


def plain_counts(table, row):
    """How many plain marks of each a row has, by the marks' order."""
    return mark_counts(table, plain(table, row))


def mark_counts(table, row):
    return [row.count(mark) for mark in table.marks()]


def _goals(table, one, other):
    """For each runner of the one row its place in the other one, None where they aren't in one lot."""
    refuse_unless_gentle(table)
    first = plain(table, one)
    last = plain(table, other)
    if mark_counts(table, first) != mark_counts(table, last):
        return None
    places = {mark: [] for mark in table.marks()}
    for place, mark in enumerate(last):
        places[mark].append(place)
    # Like plain marks never pass in fewest passes, so the k-th of a mark stays the k-th of it.
    return [places[mark][first[:at].count(mark)] for at, mark in enumerate(first)]


def _crossing(goals):
    """The pairs of runners of which the first one comes to stand behind the other."""
    many = len(goals)
    return [(one, other) for one in range(many) for other in range(one + 1, many) if goals[one] > goals[other]]


def _has_form(places, thing):
    """Whether anything is a tuple of a word and a list of pairs of numbers."""
    if not isinstance(thing, tuple) or len(thing) != 2:
        return False
    word, pairs = thing
    if not isinstance(word, tuple) or word_fault(places, word) is not None:
        return False
    return isinstance(pairs, list) and all([_is_pair(places, pair) for pair in pairs])


def _is_pair(places, thing):
    if not isinstance(thing, tuple) or len(thing) != 2:
        return False
    return all([is_number(runner, 0, places - 1) for runner in thing])

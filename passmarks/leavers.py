"""Orders that leave a row of a gentle table as it is."""

from math import factorial

from passmarks.checks import row_taken, word_fault
from passmarks.faults import refuse_unless_gentle
from passmarks.lots import plain_counts
from passmarks.orders import order_of
from passmarks.passes import row_behind
from passmarks.plainrows import plain
from passmarks.words import told_form


def leaving(table, row):
    """How many orders leave a row as it is."""
    refuse_unless_gentle(table)
    many = 1
    for count in plain_counts(table, row):
        many *= factorial(count)
    return many


def makers(table, row):
    """Words that each exchange a runner and the next one with a like plain mark."""
    refuse_unless_gentle(table)
    plain_row = plain(table, row)
    words = []
    for one, mark in enumerate(plain_row):
        behind = plain_row[one + 1:]
        if mark in behind:
            words.append(_exchanging(len(plain_row), one, one + 1 + behind.index(mark)))
    return words


def shows_makers(table, row, thing):
    """Whether anything is a list of words that leave a row, and link just its runners of like plain marks."""
    refuse_unless_gentle(table)
    runners = row_taken(table, row)
    if not isinstance(thing, list) or not all([_leaves(table, runners, word) for word in thing]):
        return False
    plain_row = plain(table, runners)
    return _least_linked(len(runners), thing) == [plain_row.index(mark) for mark in plain_row]


def _exchanging(places, one, other):
    order = list(range(places))
    order[one], order[other] = other, one
    return told_form(order)


def _leaves(table, row, word):
    """Whether anything is a word that exchanges two runners and no others, and leaves the row."""
    places = len(row)
    if not isinstance(word, tuple) or word_fault(places, word) is not None:
        return False
    return len(_moved(places, word)) == 2 and row_behind(table, row, word) == row


def _moved(places, word):
    """The runners that a word moves to other places, rising."""
    order = order_of(places, word)
    return [place for place in range(places) if order[place] != place]


def _least_linked(places, words):
    """For each runner the least one that it is linked to by words that each exchange two."""
    least = list(range(places))
    for word in words:
        ends = [least[runner] for runner in _moved(places, word)]
        least = [min(ends) if runner in ends else runner for runner in least]
    return least

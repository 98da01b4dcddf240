"""Numbers of rows in lots of gentle tables, told by counting plain rows."""

from math import comb, factorial

from passmarks.checks import number_taken, places_taken
from passmarks.faults import refuse_unless_gentle
from passmarks.lots import mark_counts, plain_counts
from passmarks.orders import order_of, rings
from passmarks.plainrows import plain, row_of_plain


def lot_size(table, row):
    """How many rows the lot of a row has."""
    refuse_unless_gentle(table)
    return _many_rows(plain_counts(table, row))


def number_of(table, row):
    """The number of a row among its lot, rising by plain rows."""
    refuse_unless_gentle(table)
    marks = table.marks()
    plain_row = plain(table, row)
    number = 0
    for at, mark in enumerate(plain_row):
        counts = mark_counts(table, plain_row[at:])
        number += sum([_many_from(counts, lesser) for lesser in range(marks.index(mark))])
    return number


def row_at(table, row, number):
    """The row with a number among the lot of a row."""
    refuse_unless_gentle(table)
    marks = table.marks()
    counts = plain_counts(table, row)
    left = number_taken(number, 0, _many_rows(counts) - 1)
    plain_row = []
    while sum(counts) > 0:
        first = 0
        while left >= _many_from(counts, first):
            left -= _many_from(counts, first)
            first += 1
        plain_row.append(marks[first])
        counts[first] -= 1
    return row_of_plain(table, plain_row)


def lots_of(table, places):
    """How many lots there are of rows of so many places."""
    places_taken(places)
    refuse_unless_gentle(table)
    return comb(places + len(table.marks()) - 1, places)


def left_by(table, places, word):
    """How many rows of so many places a word leaves as they are."""
    places_taken(places)
    refuse_unless_gentle(table)
    many = 1
    # Runners of one ring of the word's order come to one another's places, so their plain marks are alike.
    for _ in rings(order_of(places, word)):
        many *= len(table.marks())
    return many


def _many_rows(counts):
    """How many rows there are of so many of each mark."""
    many = factorial(sum(counts))
    for count in counts:
        many //= factorial(count)
    return many


def _many_from(counts, first):
    """How many of these rows begin with the mark number first."""
    return _many_rows(counts) * counts[first] // sum(counts)

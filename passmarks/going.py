"""Lots of any table, told by going pass by pass from row to row."""

from passmarks.bounds import MOST
from passmarks.checks import row_fault, row_taken
from passmarks.errors import TooMany
from passmarks.tables import pass_done, rising


def all_rows(table, row, *, most=MOST):
    """All rows that passes lead a row to, itself too, rising."""
    return rising(table, list(far_rows(table, row, most=most)))


def far_rows(table, row, *, most=MOST):
    """All rows that passes lead a row to, each with the fewest passes from it."""
    rows = [row_taken(table, row)]
    far = {rows[0]: 0}
    at = 0
    while at < len(rows):
        if len(rows) > most:
            raise TooMany(most)
        now = rows[at]
        for behind in _behind_one_pass(table, now):
            if behind not in far:
                far[behind] = far[now] + 1
                rows.append(behind)
        at += 1
    return far


def shows_never(table, one, other, thing):
    """Whether anything is a list of rows that no pass leads out of, with the one row and without the other."""
    first = row_taken(table, one)
    last = row_taken(table, other)
    if not isinstance(thing, list) or not all([_is_row(table, row) for row in thing]):
        return False
    there = {row: True for row in thing}
    if len(there) < len(thing) or first not in there or last in there:
        return False
    return all([behind in there for row in thing for behind in _behind_one_pass(table, row)])


def _behind_one_pass(table, row):
    return [pass_done(table, row, place) for place in range(len(row) - 1)]


def _is_row(table, thing):
    return isinstance(thing, tuple) and row_fault(table, thing) is None

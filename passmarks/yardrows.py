"""Rows in a yard: what was done to each since it was put, and how it stands."""

from passmarks.begun import many_gone, rows_begun, rows_behind
from passmarks.orders import order_of
from passmarks.plainrows import plain


class PutRow:
    """A row in a yard, which never changes: its table's name, its holes, its steps and its looks."""

    def __init__(self, of_table, marks_told, steps, sights):
        self.of_table = of_table
        self.marks_told = marks_told
        self.steps = steps
        self.sights = sights


def further(put, steps):
    """The row behind further steps."""
    return PutRow(put.of_table, put.marks_told, put.steps + steps, put.sights)


def looked_at(put, place, mark):
    """The row behind a further look."""
    return PutRow(put.of_table, put.marks_told, put.steps, put.sights + ((gone_by(put), place, mark),))


def told_at(put, place, mark):
    """The row with one of its hidden marks told."""
    marks = put.marks_told[:place] + (mark,) + put.marks_told[place + 1:]
    return PutRow(put.of_table, marks, put.steps, put.sights)


def gone_by(put):
    """How many passes are gone."""
    return many_gone(len(put.marks_told), put.steps)


def runners_of(put):
    """The order of the row's runners, carriers left out."""
    return order_of(len(put.marks_told), [step for step in put.steps if not isinstance(step, str)])


def rows_first(table, put):
    """The row's beginnings, rising."""
    return rows_begun(table, put.marks_told, put.steps, put.sights)


def rows_now(table, put):
    """What stands now behind each of its beginnings."""
    return rows_behind(table, rows_first(table, put), put.steps)


def plain_now(table, put):
    """The plain row of a row without hidden places, as it stands."""
    return plain(table, rows_now(table, put)[0])

"""Plain rows: the marks with which runners come out behind all others."""

from passmarks.checks import row_taken
from passmarks.faults import refuse_unless_sided
from passmarks.tables import Table


def plain(table, row):
    """The plain row: for each place the mark with which the one there comes out."""
    runners = row_taken(table, row)
    return tuple([_mark_out(table, mark, runners[at + 1:]) for at, mark in enumerate(runners)])


def plain_table(table):
    """The table by which passes change plain marks."""
    refuse_unless_sided(table)
    marks = table.marks()
    return Table(marks, [[(_plain_ahead(table, one, other), one) for other in marks] for one in marks])


def row_of_plain(table, row):
    """The row whose plain row is the told one."""
    refuse_unless_sided(table)
    found = ()
    for out in reversed(row_taken(table, row)):
        found = (_mark_in(table, out, found),) + found
    return found


def _mark_out(table, mark, row):
    """What a mark is behind the whole row, having passed all of it."""
    for other in row:
        mark = table.passed(mark, other)[1]
    return mark


def _mark_in(table, out, row):
    # Where the table is SIDED no two marks come out alike.
    return [mark for mark in table.marks() if _mark_out(table, mark, row) == out][0]


def _plain_ahead(table, one, other):
    """The plain mark that comes to stand ahead where the plain marks one and other pass."""
    # The last place's plain mark is its own, so two places tell it.
    two = (_mark_in(table, one, (other,)), other)
    return plain(table, table.passed(*two))[0]

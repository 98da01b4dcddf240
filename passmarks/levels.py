"""Levels: a table, what it is made one, what that is made one, and so on."""

from passmarks.checks import row_taken
from passmarks.likes import alike_lots, made_one, well_fault


def levels(table):
    """The tables, from the told one on, as long as two marks are alike and there is no fault."""
    found = [table]
    while _goes_on(found[-1]):
        found.append(made_one(found[-1])[0])
    return found


def level_rows(table, row):
    """A row at each level, each the one ahead made one."""
    rows = [row_taken(table, row)]
    for level in levels(table)[:-1]:
        firsts = made_one(level)[1]
        rows.append(tuple([firsts[mark] for mark in rows[-1]]))
    return rows


def elders(table, row):
    """How many rows are made one to a row of the next level."""
    made, firsts = made_one(table)
    goals = [firsts[mark] for mark in table.marks()]
    many = 1
    for mark in row_taken(made, row):
        many *= goals.count(mark)
    return many


def _goes_on(table):
    return len(alike_lots(table)) < len(table.marks()) and well_fault(table) is None

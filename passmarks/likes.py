"""Alike marks, which no other mark can tell, and tables in which they are made one."""

from passmarks.errors import NotWell
from passmarks.tables import Table, all_pairs


def alike_lots(table):
    """The lots of alike marks."""
    firsts = _first_ones(table)
    marks = table.marks()
    return [tuple([mark for mark in marks if firsts[mark] == first]) for first in marks if firsts[first] == first]


def well_fault(table):
    """The least two pairs of alike marks whose passes, made one, are unlike; None where there are none."""
    firsts = _first_ones(table)
    pairs = all_pairs(table)
    for one in pairs:
        for other in pairs:
            alike = _made(firsts, one) == _made(firsts, other)
            if alike and _made_pass(table, firsts, one) != _made_pass(table, firsts, other):
                return (one, other)
    return None


def made_one(table):
    """The table of the first ones of the lots, and for each mark the first one of its lot."""
    fault = well_fault(table)
    if fault is not None:
        raise NotWell(fault)
    firsts = _first_ones(table)
    marks = [mark for mark in table.marks() if firsts[mark] == mark]
    return Table(marks, [[_made_pass(table, firsts, (x, y)) for y in marks] for x in marks]), firsts


def _first_ones(table):
    """For each mark the first one of its lot."""
    marks = table.marks()
    return {mark: [other for other in marks if _are_alike(table, other, mark)][0] for mark in marks}


def _are_alike(table, x, y):
    return all([table.passed(x, z)[0] == table.passed(y, z)[0] and table.passed(z, x)[1] == table.passed(z, y)[1]
                for z in table.marks()])


def _made(firsts, marks):
    return tuple([firsts[mark] for mark in marks])


def _made_pass(table, firsts, pair):
    """What a pass of a pair gives, made one."""
    return _made(firsts, table.passed(*pair))

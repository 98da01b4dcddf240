"""What a table lacks to be THREE, TWICE, ONE-ONE or SIDED; None where it lacks nothing."""

from passmarks.errors import NotOneOne, NotSided, NotThree, NotTwice
from passmarks.tables import all_pairs, pass_done


def three_fault(table):
    """The least three marks of which passes at 0, 1, 0 and at 1, 0, 1 make unlike rows."""
    marks = table.marks()
    for x in marks:
        for y in marks:
            for z in marks:
                row = (x, y, z)
                if _turned(table, row, 0, 1) != _turned(table, row, 1, 0):
                    return row
    return None


def twice_fault(table):
    """The least two marks that a pass and the same again make others."""
    for pair in all_pairs(table):
        behind = table.passed(*pair)
        if table.passed(*behind) != pair:
            return pair
    return None


def one_fault(table):
    """The least two pairs, the lesser one first, that come to one pair."""
    pairs = all_pairs(table)
    for at, lesser in enumerate(pairs):
        for greater in pairs[at + 1:]:
            if table.passed(*lesser) == table.passed(*greater):
                return (lesser, greater)
    return None


def sided_fault(table):
    """The side on which a held mark makes two unlike ones one, the held mark, and the two."""
    marks = table.marks()
    twos = [(one, other) for at, one in enumerate(marks) for other in marks[at + 1:]]
    for held in marks:
        for one, other in twos:
            if table.passed(one, held)[1] == table.passed(other, held)[1]:
                return ("second", held, one, other)
    for held in marks:
        for one, other in twos:
            if table.passed(held, one)[0] == table.passed(held, other)[0]:
                return ("first", held, one, other)
    return None


def is_gentle(table):
    """Whether a table is THREE, SIDED and TWICE."""
    return three_fault(table) is None and sided_fault(table) is None and twice_fault(table) is None


def refuse_unless_one_one(table):
    """Passes of tables that aren't ONE-ONE can't be undone."""
    fault = one_fault(table)
    if fault is not None:
        raise NotOneOne(fault)


def refuse_unless_sided(table):
    """What is told of plain rows by a plain table is refused of all tables that aren't THREE and SIDED."""
    fault = three_fault(table)
    if fault is not None:
        raise NotThree(fault)
    fault = sided_fault(table)
    if fault is not None:
        raise NotSided(fault)


def refuse_unless_gentle(table):
    """What is told of lots is refused of all tables that aren't THREE, SIDED and TWICE."""
    refuse_unless_sided(table)
    fault = twice_fault(table)
    if fault is not None:
        raise NotTwice(fault)


def _turned(table, row, place, other):
    """The row behind passes at the place, at the other one, and at the place again."""
    row = pass_done(table, row, place)
    row = pass_done(table, row, other)
    return pass_done(table, row, place)

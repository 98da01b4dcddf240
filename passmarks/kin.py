"""Tables that are made of others: named anew, turned about, undone, parts, two together."""

from passmarks.checks import is_listing
from passmarks.errors import NoMark, NoNames, NotPart, SameMark, TooMany
from passmarks.faults import refuse_unless_one_one
from passmarks.maps import leaving_pass
from passmarks.names import is_name
from passmarks.tables import MOST_MARKS, Table, all_pairs


def named(table, names):
    """The table with other names, in the same order."""
    marks = table.marks()
    _refuse_unless_names(names, marks)
    pairs = [[tuple([names[mark] for mark in pair]) for pair in line] for line in table.pairs()]
    return Table([names[mark] for mark in marks], pairs)


def turned(table):
    """What a row that is read from behind does."""
    return _made_by(table.marks(), {(x, y): _exchanged(table.passed(y, x)) for x, y in all_pairs(table)})


def undone_table(table):
    """The table by which passes lead back."""
    refuse_unless_one_one(table)
    return _made_by(table.marks(), {table.passed(*pair): pair for pair in all_pairs(table)})


def part_of(table, marks):
    """The table of some marks that stay among themselves."""
    _refuse_unless_some(table, marks)
    part = [mark for mark in table.marks() if mark in marks]
    pair = leaving_pass(table, part)
    if pair is not None:
        raise NotPart(pair)
    return _made_by(part, {pair: table.passed(*pair) for pair in all_pairs(table)})


def beside(one, other):
    """Both tables together, of which unlike ones' marks just exchange."""
    for mark in other.marks():
        if mark in one.marks():
            raise SameMark(mark)
    marks = one.marks() + other.marks()
    if len(marks) > MOST_MARKS:
        raise TooMany(MOST_MARKS)
    passed = {(x, y): (y, x) for x in marks for y in marks}
    for table in (one, other):
        for pair in all_pairs(table):
            passed[pair] = table.passed(*pair)
    return _made_by(marks, passed)


def product(one, other, names):
    """The table whose marks are all pairs of marks of both, by names, and pass as both do."""
    marks = [(x, y) for x in one.marks() for y in other.marks()]
    if len(marks) > MOST_MARKS:
        raise TooMany(MOST_MARKS)
    _refuse_unless_names(names, marks)
    pairs = [[_both_passed(one, other, ahead, behind) for behind in marks] for ahead in marks]
    return Table([names[mark] for mark in marks], [[(names[x], names[y]) for x, y in line] for line in pairs])


def _made_by(marks, passed):
    """The table of these marks, by a dict of what each pass gives."""
    return Table(marks, [[passed[x, y] for y in marks] for x in marks])


def _exchanged(pair):
    return (pair[1], pair[0])


def _both_passed(one, other, ahead, behind):
    """The two pairs of marks that a pass of two pairs of marks gives."""
    first = one.passed(ahead[0], behind[0])
    second = other.passed(ahead[1], behind[1])
    return ((first[0], second[0]), (first[1], second[1]))


def _refuse_unless_names(names, marks):
    if not isinstance(names, dict) or len(names) != len(marks) or not all([mark in names for mark in marks]):
        raise NoNames()
    goals = [names[mark] for mark in marks]
    if not all([is_name(goal) for goal in goals]) or len(set(goals)) != len(goals):
        raise NoNames()


def _refuse_unless_some(table, marks):
    if not is_listing(marks) or not marks:
        raise NoMark(None)
    for at, mark in enumerate(marks):
        if mark not in table.marks() or mark in marks[:at]:
            raise NoMark(mark)

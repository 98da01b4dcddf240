"""Maps from a table to another one, and parts of a table that stay among themselves."""

from itertools import combinations

from passmarks.bounds import MOST
from passmarks.errors import TooMany
from passmarks.tables import all_pairs, all_passed


def all_maps(one, other):
    """All maps from the one table to the other, in the order of their goals."""
    ways = _all_ways(one, other, False)
    if len(ways) > MOST:
        raise TooMany(MOST)
    return [_by_marks(one, goals) for goals in ways]


def renamings(one, other):
    """All maps by other names, in the order of their goals."""
    if len(one.marks()) != len(other.marks()):
        return []
    return [_by_marks(one, goals) for goals in _all_ways(one, other, True)]


def parts(table):
    """All sets of marks that stay among themselves, fewer first."""
    marks = table.marks()
    found = []
    for many in range(len(marks) + 1):
        found.extend([part for part in combinations(marks, many) if leaving_pass(table, part) is None])
    return found


def leaving_pass(table, part):
    """The first pass of two of these marks that gives another one, None where there is none."""
    for one in part:
        for other in part:
            if not all([mark in part for mark in table.passed(one, other)]):
                return (one, other)
    return None


def _by_marks(table, goals):
    return {mark: goal for mark, goal in zip(table.marks(), goals)}


def _all_ways(one, other, unlike):
    """The goals of all maps, rising; where unlike is asked for only those of unlike goals."""
    marks = one.marks()
    passed = all_passed(other)
    ways = [()]
    for last in range(len(marks)):
        asked = _passes_told_by(one, last)
        ways = [way + (goal,) for way in ways for goal in other.marks() if not unlike or goal not in way]
        ways = [goals for goals in ways if all([_is_kept(passed, goals, numbers) for numbers in asked])]
    return ways


def _passes_told_by(table, last):
    """The passes, as numbers of the marks of both and of what they give, of which the mark number last is the last."""
    marks = table.marks()
    numbered = [[marks.index(mark) for mark in pair + table.passed(*pair)] for pair in all_pairs(table)]
    return [numbers for numbers in numbered if max(numbers) == last]


def _is_kept(passed, goals, numbers):
    one, other, first, second = [goals[number] for number in numbers]
    return passed[one, other] == (first, second)

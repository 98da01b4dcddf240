"""Tables and other things that the tests hand in."""

import unittest
from functools import lru_cache
from itertools import permutations, product

from passmarks.desk import Desk
from passmarks.errors import NoMark, NotAlike, NotSided, NotThree, NotTwice
from passmarks.faults import sided_fault, three_fault, twice_fault
from passmarks.tables import Table
from passmarks.yard import Yard


def table_of(marks, rule):
    """The table in which x ahead of y gives rule(x, y)."""
    return Table(marks, [[rule(x, y) for y in marks] for x in marks])


def letters(many):
    return list("abcdef")[:many]


def exchange(many):
    """Passes just exchange marks: THREE, TWICE, ONE-ONE and SIDED."""
    return table_of(letters(many), lambda x, y: (y, x))


def standing(many):
    """Passes change no mark: THREE, TWICE and ONE-ONE, but not SIDED from two marks on."""
    return table_of(letters(many), lambda x, y: (x, y))


def standing_but(many, others):
    """Passes change no mark but those told: a dict from two letters to the two that stand there then."""
    return table_of(letters(many), lambda x, y: tuple(others.get(x + y, x + y)))


def ringed(many, ahead, behind):
    """Marks in a ring; x ahead of y gives y moved by ahead and x moved by behind."""
    marks = letters(many)

    def moved(mark, by):
        return marks[(marks.index(mark) + by) % many]

    return table_of(marks, lambda x, y: (moved(y, ahead), moved(x, behind)))


def second_given():
    """Of two marks a pass leaves the second one twice: THREE, but not TWICE."""
    return table_of(["a", "b"], lambda x, y: (y, y))


def swap_unlike_first():
    """TWICE but not THREE: only a pass of a ahead of b, or b ahead of b, does anything."""
    return Table(["a", "b"], [[("a", "a"), ("b", "b")], [("b", "a"), ("a", "b")]])


def two_mark_tables():
    """All 256 tables of the marks a and b."""
    pairs = list(product("ab", repeat=2))
    return [Table("a b".split(), [list(four[:2]), list(four[2:])]) for four in product(pairs, repeat=4)]


def remarked(table, marks):
    """The same passes, with the marks told in another order."""
    return table_of(marks, table.passed)


def crossing():
    """Gentle: a and b exchange one another where they meet c, which stays; told in the order c, a, b."""
    other = {"a": "b", "b": "a", "c": "c"}
    return table_of(["c", "a", "b"], lambda x, y: (other[y] if x == "c" else y, other[x] if y == "c" else x))


def mirrored():
    """THREE and SIDED, not TWICE: a mark that is passed by another one becomes the third."""
    return table_of(["a", "b", "c"], lambda x, y: (y if x == y else "abc".strip(x + y), x))


def summed(many):
    """SIDED, but neither THREE nor TWICE: who is passed is moved along a ring by the number of who passes."""
    marks = letters(many)
    return table_of(marks, lambda x, y: (marks[(marks.index(x) + marks.index(y)) % many], x))


def parted():
    """a and b are alike, but it is of matter which of them passes c: not well told made one."""
    return table_of(["a", "b", "c"], lambda x, y: (y, "c" if (x, y) == ("b", "c") else x))


def parted_below():
    """c and d are alike, and made one a and b are, as in parted()."""
    def rule(x, y):
        first, second = "abcc"["abcd".index(x)], "abcc"["abcd".index(y)]
        ahead, behind = parted().passed(first, second)
        return ("d" if (first, second) == ("b", "c") else ahead, behind)
    return table_of(["a", "b", "c", "d"], rule)


def mapped(firsts, seconds):
    """Of marks by numbers x makes y the mark number firsts[x][y], and is made by it that number seconds[y][x]."""
    marks = letters(len(firsts))
    return Table(marks, [[(marks[firsts[x][y]], marks[seconds[y][x]]) for y in range(len(marks))]
                         for x in range(len(marks))])


# By going through, row by row, these make just 2000 and 2001 maps of six marks.
TWO_THOUSAND = ((3, 2, 0, 5, 1, 2), (0, 3, 1, 4, 5, 0)) + ((3, 2, 0, 5, 1, 2),) * 4
ONE_MORE = ((0, 1, 4, 5, 5, 3), (4, 1, 5, 5, 4, 3), (0, 2, 4, 1, 0, 2), (1, 5, 3, 4, 4, 4), (4, 3, 1, 1, 1, 1),
            (2, 4, 0, 4, 3, 0))


@lru_cache(maxsize=None)
def sided_threes():
    """All tables of the marks a, b, c that are THREE and SIDED, found by going through all that are SIDED."""
    ways = list(product(permutations("abc"), repeat=3))
    found = []
    for firsts in ways:
        for seconds in ways:
            passed = {(x, y): (firsts[at][to], seconds[to][at])
                      for at, x in enumerate("abc") for to, y in enumerate("abc")}
            if all(turned(passed, row) for row in product("abc", repeat=3)):
                found.append(table_of(["a", "b", "c"], lambda x, y: passed[x, y]))
    return found


def turned(passed, row):
    """Whether passes at 0, 1, 0 and at 1, 0, 1 make one row of it."""
    x, y, z = row
    one, two = passed[x, y]
    two, three = passed[two, z]
    four, five = passed[y, z]
    six, four = passed[x, four]
    return passed[one, two] + (three,) == (six,) + passed[four, five]


@lru_cache(maxsize=None)
def gentle_threes():
    """All tables of the marks a, b, c that are gentle."""
    return [table for table in sided_threes()
            if all(table.passed(*table.passed(*pair)) == pair for pair in product("abc", repeat=2))]


def ungentle(table):
    """The refusal that is due first of a table that isn't gentle, None of a gentle one."""
    for fault, error in ((three_fault, NotThree), (sided_fault, NotSided), (twice_fault, NotTwice)):
        if fault(table) is not None:
            return error(fault(table))
    return None


def far_by_going(table, row):
    """All rows that passes lead a row to, with the fewest passes, gone pass by pass."""
    pairs = {(x, y): table.passed(x, y) for x in table.marks() for y in table.marks()}
    far, left = {row: 0}, [row]
    for now in left:
        for place in range(len(row) - 1):
            behind = now[:place] + pairs[now[place:place + 2]] + now[place + 2:]
            if behind not in far:
                far[behind] = far[now] + 1
                left.append(behind)
    return far


class Refusing(unittest.TestCase):
    """Tests that ask which refusal is raised, with what in it."""

    def refused(self, error, call, *arguments, **named):
        with self.assertRaises(error.__class__) as caught:
            call(*arguments, **named)
        self.assertIs(caught.exception.__class__, error.__class__)
        self.assertTrue(same(vars(caught.exception), vars(error)), (vars(caught.exception), vars(error)))


def same(one, other):
    """Whether two things are equal and of the same kinds throughout, so that True is no 1 and a list no tuple."""
    if one.__class__ is not other.__class__:
        return False
    if isinstance(one, dict):
        return same(list(one.items()), list(other.items()))
    if isinstance(one, (list, tuple)):
        return len(one) == len(other) and all(same(*parts) for parts in zip(one, other))
    return one == other


def nested(depth):
    thing = "a"
    for level in range(depth):
        thing = [[thing], (thing,), {"a": thing}][level % 3]
    return thing


def anything():
    """Things of every kind that may be handed in where a refusal is told of anything."""
    return [
        0, 1, -1, 2, 59, 60, 61, 2000, 2001, 10 ** 60, -(10 ** 60),
        "", "a", "b", "ab", "z", "A", "a b", "marks", "0", "abcdefgh", "abcdefghi",
        None, True, False,
        (), [], {}, (0,), [0], (1, 0), [1, 0], ("a",), ["a"], ("a", "b"), ["a", "b"],
        (None, 0), [None], (True,), (False,), [True, False], ((),), [[]], ({},),
        {"a": 1}, {0: [1]}, {(0, 1): ("a",)}, [{"a": [(), {}]}],
        nested(9), nested(10),
        exchange(1), exchange(2), [exchange(1)], (exchange(1),), {"a": exchange(1)},
        NoMark("a"), NotAlike(), (NoMark(["a"]),),
        Yard(), a_yard(), [a_yard()], Desk(), Desk(a_yard()),
    ]


def a_yard():
    """A yard in which something is done and something taken back."""
    yard = Yard()
    yard.run([("table", "t", exchange(2)), ("row", "r", "t", ("a", None, "b"))])
    yard.do(("pass", "r", 1))
    yard.do(("look", "r", 0, "a"))
    yard.undo()
    return yard

"""Tables and other things that the tests hand in."""

import unittest
from functools import lru_cache
from itertools import permutations, product

from passmarks.errors import NoMark, NotAlike
from passmarks.tables import Table


def table_of(marks, rule):
    """The table in which x ahead of y gives rule(x, y)."""
    return Table(marks, [[rule(x, y) for y in marks] for x in marks])


def letters(many):
    return list("abcdef")[:many]


def exchange(many):
    """Passes just exchange marks: THREE, TWICE, ONE-ONE and SIDED."""
    return table_of(letters(many), lambda x, y: (y, x))


def standing(many):
    """Passes change no mark: THREE, TWICE and ONE-ONE, but not SIDED from two marks on."""
    return table_of(letters(many), lambda x, y: (x, y))


def ringed(many, ahead, behind):
    """Marks in a ring; x ahead of y gives y moved by ahead and x moved by behind."""
    marks = letters(many)

    def moved(mark, by):
        return marks[(marks.index(mark) + by) % many]

    return table_of(marks, lambda x, y: (moved(y, ahead), moved(x, behind)))


def second_given():
    """Of two marks a pass leaves the second one twice: THREE, but not TWICE."""
    return table_of(["a", "b"], lambda x, y: (y, y))


def swap_unlike_first():
    """TWICE but not THREE: only a pass of a ahead of b, or b ahead of b, does anything."""
    return Table(["a", "b"], [[("a", "a"), ("b", "b")], [("b", "a"), ("a", "b")]])


def two_mark_tables():
    """All 256 tables of the marks a and b."""
    pairs = list(product("ab", repeat=2))
    return [Table("a b".split(), [list(four[:2]), list(four[2:])]) for four in product(pairs, repeat=4)]


def remarked(table, marks):
    """The same passes, with the marks told in another order."""
    return table_of(marks, table.passed)


def crossing():
    """Gentle: a and b exchange one another where they meet c, which stays; told in the order c, a, b."""
    other = {"a": "b", "b": "a", "c": "c"}
    return table_of(["c", "a", "b"], lambda x, y: (other[y] if x == "c" else y, other[x] if y == "c" else x))


def mirrored():
    """THREE and SIDED, not TWICE: a mark that is passed by another one becomes the third."""
    return table_of(["a", "b", "c"], lambda x, y: (y if x == y else "abc".strip(x + y), x))


def summed(many):
    """SIDED, but neither THREE nor TWICE: who is passed is moved along a ring by the number of who passes."""
    marks = letters(many)
    return table_of(marks, lambda x, y: (marks[(marks.index(x) + marks.index(y)) % many], x))


@lru_cache(maxsize=None)
def sided_threes():
    """All tables of the marks a, b, c that are THREE and SIDED, found by going through all that are SIDED."""
    ways = list(product(permutations("abc"), repeat=3))
    found = []
    for firsts in ways:
        for seconds in ways:
            passed = {(x, y): (firsts[at][to], seconds[to][at])
                      for at, x in enumerate("abc") for to, y in enumerate("abc")}
            if all(turned(passed, row) for row in product("abc", repeat=3)):
                found.append(table_of(["a", "b", "c"], lambda x, y: passed[x, y]))
    return found


def turned(passed, row):
    """Whether passes at 0, 1, 0 and at 1, 0, 1 make one row of it."""
    x, y, z = row
    one, two = passed[x, y]
    two, three = passed[two, z]
    four, five = passed[y, z]
    six, four = passed[x, four]
    return passed[one, two] + (three,) == (six,) + passed[four, five]


@lru_cache(maxsize=None)
def gentle_threes():
    """All tables of the marks a, b, c that are gentle."""
    return [table for table in sided_threes()
            if all(table.passed(*table.passed(*pair)) == pair for pair in product("abc", repeat=2))]


def far_by_going(table, row):
    """All rows that passes lead a row to, with the fewest passes, gone pass by pass."""
    pairs = {(x, y): table.passed(x, y) for x in table.marks() for y in table.marks()}
    far, left = {row: 0}, [row]
    for now in left:
        for place in range(len(row) - 1):
            behind = now[:place] + pairs[now[place:place + 2]] + now[place + 2:]
            if behind not in far:
                far[behind] = far[now] + 1
                left.append(behind)
    return far


class Refusing(unittest.TestCase):
    """Tests that ask which refusal is raised, with what in it."""

    def refused(self, error, call, *arguments, **named):
        with self.assertRaises(error.__class__) as caught:
            call(*arguments, **named)
        self.assertIs(caught.exception.__class__, error.__class__)
        self.assertEqual(repr(vars(caught.exception)), repr(vars(error)))


def nested(depth):
    thing = "a"
    for level in range(depth):
        thing = [[thing], (thing,), {"a": thing}][level % 3]
    return thing


def anything():
    """Things of every kind that may be handed in where a refusal is told of anything."""
    return [
        0, 1, -1, 2, 59, 60, 61, 2000, 2001, 10 ** 60, -(10 ** 60),
        "", "a", "b", "ab", "z", "A", "a b", "marks", "0", "abcdefgh", "abcdefghi",
        None, True, False,
        (), [], {}, (0,), [0], (1, 0), [1, 0], ("a",), ["a"], ("a", "b"), ["a", "b"],
        (None, 0), [None], (True,), (False,), [True, False], ((),), [[]], ({},),
        {"a": 1}, {0: [1]}, {(0, 1): ("a",)}, [{"a": [(), {}]}],
        nested(9), nested(10),
        exchange(1), exchange(2), [exchange(1)], (exchange(1),), {"a": exchange(1)},
        NoMark("a"), NotAlike(), (NoMark(["a"]),),
    ]

"""Tables and other things that the tests hand in."""

from itertools import product

from passmarks.errors import NoMark, NotAlike
from passmarks.tables import Table


def table_of(marks, rule):
    """The table in which x ahead of y gives rule(x, y)."""
    return Table(marks, [[rule(x, y) for y in marks] for x in marks])


def letters(many):
    return list("abcdef")[:many]


def exchange(many):
    """Passes just exchange marks: THREE, TWICE, ONE-ONE and SIDED."""
    return table_of(letters(many), lambda x, y: (y, x))


def standing(many):
    """Passes change no mark: THREE, TWICE and ONE-ONE, but not SIDED from two marks on."""
    return table_of(letters(many), lambda x, y: (x, y))


def ringed(many, ahead, behind):
    """Marks in a ring; x ahead of y gives y moved by ahead and x moved by behind."""
    marks = letters(many)

    def moved(mark, by):
        return marks[(marks.index(mark) + by) % many]

    return table_of(marks, lambda x, y: (moved(y, ahead), moved(x, behind)))


def second_given():
    """Of two marks a pass leaves the second one twice: THREE, but not TWICE."""
    return table_of(["a", "b"], lambda x, y: (y, y))


def swap_unlike_first():
    """TWICE but not THREE: only a pass of a ahead of b, or b ahead of b, does anything."""
    return Table(["a", "b"], [[("a", "a"), ("b", "b")], [("b", "a"), ("a", "b")]])


def two_mark_tables():
    """All 256 tables of the marks a and b."""
    pairs = list(product("ab", repeat=2))
    return [Table("a b".split(), [list(four[:2]), list(four[2:])]) for four in product(pairs, repeat=4)]


def nested(depth):
    thing = "a"
    for level in range(depth):
        thing = [[thing], (thing,), {"a": thing}][level % 3]
    return thing


def anything():
    """Things of every kind that may be handed in where a refusal is told of anything."""
    return [
        0, 1, -1, 2, 59, 60, 61, 2000, 2001, 10 ** 60, -(10 ** 60),
        "", "a", "b", "ab", "z", "A", "a b", "marks", "0", "abcdefgh", "abcdefghi",
        None, True, False,
        (), [], {}, (0,), [0], (1, 0), [1, 0], ("a",), ["a"], ("a", "b"), ["a", "b"],
        (None, 0), [None], (True,), (False,), [True, False], ((),), [[]], ({},),
        {"a": 1}, {0: [1]}, {(0, 1): ("a",)}, [{"a": [(), {}]}],
        nested(9), nested(10),
        exchange(1), exchange(2), [exchange(1)], (exchange(1),), {"a": exchange(1)},
        NoMark("a"), NotAlike(), (NoMark(["a"]),),
    ]

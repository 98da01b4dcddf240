import unittest
from itertools import permutations, product as pairs_of

from passmarks.errors import NoMark, NoNames, NotOneOne, NotPart, SameMark, TooMany
from passmarks.faults import one_fault, sided_fault, three_fault, twice_fault
from passmarks.kin import beside, named, part_of, product, turned, undone_table
from passmarks.maps import parts
from passmarks.passes import row_behind
from passmarks.tables import Table
from tests.things import (Refusing, anything, crossing, exchange, letters, mirrored, parted, remarked, ringed,
                          second_given, sided_threes, standing, standing_but, summed, swap_unlike_first,
                          two_mark_tables)

FAULTS = (three_fault, sided_fault, twice_fault, one_fault)


def some_tables():
    return two_mark_tables()[::5] + sided_threes()[::20] + [
        exchange(1), exchange(3), standing(3), crossing(), mirrored(), parted(), summed(3), ringed(3, 1, 2),
        second_given(), swap_unlike_first(), remarked(crossing(), ["b", "c", "a"])]


def like(table):
    """What a table is and isn't, of THREE, SIDED, TWICE, ONE-ONE."""
    return [fault(table) is None for fault in FAULTS]


def undoable():
    return [table for table in some_tables() + two_mark_tables() + sided_threes() if one_fault(table) is None]


def renamed(table, names):
    return Table([names[mark] for mark in table.marks()],
                 [[tuple(names[mark] for mark in pair) for pair in line] for line in table.pairs()])


class Named(Refusing):
    def test_by_hand(self):
        told = named(crossing(), {"a": "c", "b": "zebra", "c": "b"})
        self.assertIsInstance(told, Table)
        self.assertEqual(told.marks(), ["b", "c", "zebra"])
        self.assertEqual(told.passed("b", "c"), ("zebra", "b"))
        self.assertEqual(named(exchange(1), {"a": "a"}), exchange(1))

    def test_many_tables(self):
        for table in some_tables():
            for goals in (["x", "abcdefgh", "b"], ["b", "a", "c"], ["c", "a", "b"]):
                names = dict(zip(reversed(sorted(table.marks())), goals))
                told = named(table, names)
                self.assertTrue(told == renamed(table, names))
                self.assertEqual(like(told), like(table))

    def test_names_of_one_letter_and_of_eight(self):
        self.assertEqual(named(exchange(2), {"a": "z", "b": "abcdefgh"}).marks(), ["z", "abcdefgh"])
        self.refused(NoNames(), named, exchange(2), {"a": "z", "b": "abcdefghi"})
        self.refused(NoNames(), named, exchange(2), {"a": "", "b": "b"})

    def test_six_marks(self):
        names = dict(zip("abcdef", ["uno", "due", "tre", "quattro", "cinque", "sei"]))
        self.assertEqual(named(summed(6), names), renamed(summed(6), names))

    def test_no_names(self):
        table = exchange(2)
        for names in ({"a": "x"}, {"a": "x", "b": "y", "c": "z"}, {"a": "x", "c": "y"}, {"a": "x", "b": "x"},
                      {}, {"a": "x", 1: "y"}, {"a": "x", ("b",): "y"}, ["x", "y"], (("a", "x"), ("b", "y")),
                      {"a": "X", "b": "y"}, {"a": "x y", "b": "y"}, {"a": "b"}):
            self.refused(NoNames(), named, table, names)
        for thing in anything():
            self.refused(NoNames(), named, table, thing)
            if repr(thing) not in ("'a'", "'z'", "'ab'", "'marks'", "'abcdefgh'"):
                self.refused(NoNames(), named, table, {"a": thing, "b": "b"})

    def test_by_names_and_what_is_handed_in(self):
        names = {"b": "y", "a": "x"}
        told = named(names=names, table=exchange(2))
        names["a"] = "q"
        self.assertEqual(told.marks(), ["x", "y"])
        self.assertEqual(list(names), ["b", "a"])


class Turned(unittest.TestCase):
    def test_what_a_row_read_from_behind_does(self):
        for table in some_tables():
            told = turned(table=table)
            self.assertEqual(told.marks(), table.marks())
            for row in pairs_of(table.marks(), repeat=3):
                for word in ((0,), (1,), (0, 1), (1, 0, 0)):
                    behind = row_behind(table, row, word)
                    mirrored_word = tuple(1 - place for place in word)
                    self.assertEqual(row_behind(told, row[::-1], mirrored_word), behind[::-1])
            self.assertTrue(turned(told) == table)
            self.assertEqual(like(told), like(table))

    def test_by_hand(self):
        self.assertEqual(turned(second_given()).pairs(), [[("a", "a"), ("a", "a")], [("b", "b"), ("b", "b")]])
        self.assertEqual(turned(exchange(6)), exchange(6))


class Undone(Refusing):
    def test_passes_lead_back(self):
        tables = undoable()
        self.assertGreater(len(tables), 50)
        for table in tables:
            told = undone_table(table=table)
            self.assertEqual(told.marks(), table.marks())
            for pair in pairs_of(table.marks(), repeat=2):
                self.assertEqual(told.passed(*table.passed(*pair)), pair)
                self.assertEqual(table.passed(*told.passed(*pair)), pair)
            self.assertEqual([three_fault(told) is None, twice_fault(told) is None, one_fault(told)],
                             [three_fault(table) is None, twice_fault(table) is None, None])

    def test_of_others(self):
        many = 0
        for table in two_mark_tables() + some_tables():
            if one_fault(table) is not None:
                self.refused(NotOneOne(one_fault(table)), undone_table, table)
                many += 1
        self.assertGreater(many, 200)
        self.refused(NotOneOne((("a", "a"), ("b", "a"))), undone_table, second_given())


class Part(Refusing):
    def test_many_tables(self):
        for table in some_tables() + [standing(6), summed(4)]:
            whole = parts(table)
            for many in range(1, len(table.marks()) + 1):
                for marks in permutations(table.marks(), many):
                    inside = tuple(mark for mark in table.marks() if mark in marks)
                    out = [pair for pair in pairs_of(inside, repeat=2) if not set(table.passed(*pair)) <= set(inside)]
                    if inside not in whole:
                        self.refused(NotPart(out[0]), part_of, table, marks)
                        continue
                    told = part_of(table, list(marks))
                    self.assertEqual(told.marks(), list(inside))
                    for pair in pairs_of(inside, repeat=2):
                        self.assertEqual(told.passed(*pair), table.passed(*pair))
                    self.assertTrue(all(now or not was for was, now in zip(like(table), like(told))))

    def test_all_marks(self):
        self.assertEqual(part_of(crossing(), ("b", "a", "c")), crossing())
        self.assertEqual(part_of(marks=["a"], table=exchange(1)), exchange(1))

    def test_not_part(self):
        # The first pass by the table's order, c, a, b, whatever order is handed in.
        table = remarked(summed(3), ["c", "a", "b"])
        self.refused(NotPart(("c", "b")), part_of, table, ["b", "c"])
        self.refused(NotPart(("b", "b")), part_of, summed(3), ("b",))
        self.refused(NotPart(("b", "a")), part_of, standing_but(3, {"ba": "ca", "bb": "cc"}), ("b", "a"))

    def test_no_marks(self):
        table = summed(3)
        for thing in anything():
            if not isinstance(thing, (list, tuple)) or not thing:
                self.refused(NoMark(None), part_of, table, thing)
            if repr(thing) not in ("'a'", "'b'"):
                self.refused(NoMark(thing), part_of, table, [thing])
                self.refused(NoMark(thing), part_of, table, ("b", thing, "q", "b"))
        self.refused(NoMark("b"), part_of, table, ["b", "a", "b", "q"])
        self.refused(NoMark("a"), part_of, exchange(2), ("a", "a"))
        self.refused(NoMark("a"), part_of, table, ["b", "a", "c", "a"])
        # A mark that is none goes first, even where a pass leads out, too.
        self.refused(NoMark("q"), part_of, table, ["b", "q"])

    def test_what_is_kept_is_a_copy(self):
        inside = ["x"]
        try:
            part_of(exchange(2), ["a", inside])
        except NoMark as refused:
            inside.append("y")
            self.assertEqual(refused.mark, ["x"])


class Beside(Refusing):
    def test_many_tables(self):
        tables = some_tables()
        for one, other in zip(tables, tables[7:] + tables[:7]):
            other = renamed(other, dict(zip(other.marks(), "xyz")))
            told = beside(one, other)
            self.assertEqual(told.marks(), one.marks() + other.marks())
            for x, y in pairs_of(told.marks(), repeat=2):
                where = one if x in one.marks() and y in one.marks() else other
                alone = (x in one.marks()) == (y in one.marks())
                self.assertEqual(told.passed(x, y), where.passed(x, y) if alone else (y, x))
            self.assertEqual(like(told), [both for both in map(min, like(one), like(other))])

    def test_six_marks_and_more(self):
        four = named(standing(4), dict(zip("abcd", "wxyz")))
        self.assertEqual(len(beside(exchange(2), four).marks()), 6)
        self.assertEqual(beside(other=exchange(1), one=four).marks(), list("wxyza"))
        self.refused(TooMany(6), beside, exchange(3), four)
        self.refused(TooMany(6), beside, exchange(6), named(exchange(6), dict(zip("abcdef", "uvwxyz"))))

    def test_same_marks_go_first(self):
        self.refused(SameMark("a"), beside, exchange(1), exchange(1))
        self.refused(SameMark("c"), beside, exchange(3), crossing())
        self.refused(SameMark("b"), beside, exchange(6), remarked(exchange(3), ["b", "a", "c"]))
        self.refused(SameMark("f"), beside, exchange(6), named(exchange(6), dict(zip("abcdef", "uvwfyz"))))
        self.refused(SameMark("b"), beside, exchange(2), named(exchange(2), {"a": "c", "b": "b"}))


class Product(Refusing):
    def test_many_tables(self):
        tables = [table for table in some_tables() if len(table.marks()) == 2][::3]
        others = [exchange(1), standing(3), crossing(), mirrored(), summed(3), ringed(2, 1, 0), second_given()]
        for one in tables:
            for other in others:
                twos = list(pairs_of(one.marks(), other.marks()))
                names = {two: "".join(two) for two in reversed(twos)}
                told = product(one, other, names)
                self.assertEqual(told.marks(), [names[two] for two in twos])
                for x, y in pairs_of(twos, repeat=2):
                    first, second = one.passed(x[0], y[0]), other.passed(x[1], y[1])
                    self.assertEqual(told.passed(names[x], names[y]),
                                     (names[first[0], second[0]], names[first[1], second[1]]))
                self.assertEqual(like(told), [both for both in map(min, like(one), like(other))])

    def test_six_marks_and_more(self):
        names = {(x, y): x + y for x in "abcdef" for y in "abcdef"}
        self.assertEqual(product(exchange(6), exchange(1), {(x, "a"): x for x in letters(6)}), exchange(6))
        self.assertEqual(product(exchange(2), standing(3), {two: names[two] for two in pairs_of("ab", "abc")}).marks(),
                         ["aa", "ab", "ac", "ba", "bb", "bc"])
        self.refused(TooMany(6), product, exchange(2), exchange(4),
                     {two: names[two] for two in pairs_of("ab", "abcd")})
        for thing in anything():
            # Too many marks go ahead of no names.
            self.refused(TooMany(6), product, exchange(6), exchange(6), thing)
            self.refused(TooMany(6), product, exchange(3), exchange(3), thing)

    def test_no_names(self):
        one, other = exchange(1), exchange(2)
        self.assertEqual(product(one, other, {("a", "a"): "a", ("a", "b"): "b"}), exchange(2))
        for names in ({("a", "a"): "a"}, {("a", "a"): "a", ("a", "b"): "a"}, {"aa": "a", "ab": "b"},
                      {("a", "a"): "a", ("a", "b"): "b", ("a", "c"): "c"}, {("a", "a"): "a", ("b", "a"): "b"},
                      {("a", "a"): "a", ("a", "b"): "B"}, {"a": "a", "b": "b"}):
            self.refused(NoNames(), product, one, other, names)
        for thing in anything():
            self.refused(NoNames(), product, one, other, thing)
            if repr(thing) not in ("'b'", "'z'", "'ab'", "'marks'", "'abcdefgh'"):
                self.refused(NoNames(), product, one, other, {("a", "a"): "a", ("a", "b"): thing})

    def test_by_names_and_what_is_handed_in(self):
        names = {("a", "a"): "x", ("a", "b"): "y"}
        told = product(names=names, other=exchange(2), one=exchange(1))
        names.clear()
        self.assertEqual(told.marks(), ["x", "y"])


if __name__ == "__main__":
    unittest.main()

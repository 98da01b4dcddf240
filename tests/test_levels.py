import unittest
from itertools import product

from passmarks.errors import NoRow, NotWell
from passmarks.levels import elders, level_rows, levels
from passmarks.likes import alike_lots, made_one, well_fault
from passmarks.passes import row_behind
from passmarks.tables import Table
from tests.things import (Refusing, anything, crossing, exchange, mirrored, parted, parted_below, remarked, ringed,
                          second_given, sided_threes, standing, summed, two_mark_tables)


def some_tables():
    return two_mark_tables()[::5] + sided_threes()[::3] + [
        crossing(), mirrored(), parted(), parted_below(), standing(3), exchange(3), exchange(1),
        remarked(crossing(), ["b", "c", "a"])]


class Levels(unittest.TestCase):
    def test_by_hand(self):
        self.assertEqual(levels(exchange(6)), [exchange(6), exchange(1)])
        self.assertEqual(levels(exchange(1)), [exchange(1)])
        self.assertEqual(levels(standing(6)), [standing(6)])
        second = Table(["c", "a"], [[("c", "c"), ("a", "c")], [("c", "a"), ("a", "a")]])
        self.assertEqual(levels(crossing()), [crossing(), second, Table(["c"], [[("c", "c")]])])

    def test_where_it_is_not_well_told(self):
        self.assertEqual(levels(parted()), [parted()])
        self.assertEqual(levels(parted_below()), [parted_below(), parted()])

    def test_each_is_the_one_ahead_made_one(self):
        long = 0
        for table in some_tables() + sided_threes():
            told = levels(table=table)
            self.assertIsInstance(told, list)
            self.assertTrue(told[0] == table)
            for one, other in zip(told, told[1:]):
                self.assertTrue(made_one(one)[0] == other)
                self.assertLess(len(other.marks()), len(one.marks()))
            last = told[-1]
            self.assertTrue(well_fault(last) is not None or len(alike_lots(last)) == len(last.marks()))
            long += len(told) > 2
        self.assertGreater(long, 30)

    def test_told_lists_changed_afterwards(self):
        table = crossing()
        levels(table).clear()
        self.assertEqual(len(levels(table)), 3)


class LevelRows(Refusing):
    def test_by_hand(self):
        self.assertEqual(level_rows(crossing(), ("a", "c", "b")), [("a", "c", "b"), ("a", "c", "a"), ("c", "c", "c")])
        self.assertEqual(level_rows(exchange(6), ("f",)), [("f",), ("a",)])
        self.assertEqual(level_rows(exchange(1), ("a",) * 60), [("a",) * 60])
        self.assertEqual(level_rows(exchange(2), ("a", "b") * 30), [("a", "b") * 30, ("a",) * 60])
        self.assertEqual(level_rows(parted(), ("a", "b", "c")), [("a", "b", "c")])
        self.assertEqual(level_rows(parted_below(), ("d", "b", "c")), [("d", "b", "c"), ("c", "b", "c")])

    def test_what_a_word_makes(self):
        for table in some_tables():
            tables = levels(table)
            for row in product(table.marks(), repeat=3):
                told = level_rows(table, row)
                self.assertIsInstance(told, list)
                self.assertEqual(len(told), len(tables))
                for word in ((0,), (1, 0, 1)):
                    behind = [row_behind(level, there, word) for level, there in zip(tables, told)]
                    self.assertEqual(level_rows(table, behind[0]), behind)

    def test_lists_and_names(self):
        row = ["a", "c", "b"]
        told = level_rows(row=row, table=crossing())
        self.assertEqual(told, level_rows(crossing(), ("a", "c", "b")))
        self.assertTrue(all(isinstance(one, tuple) for one in told))
        told[0] = None
        self.assertEqual(level_rows(crossing(), row)[0], ("a", "c", "b"))
        self.assertEqual(row, ["a", "c", "b"])

    def test_refused(self):
        for table in (crossing(), parted(), exchange(2)):
            self.refused(NoRow(-1), level_rows, table, ())
            self.refused(NoRow(-1), level_rows, table, ("a",) * 61)
            for thing in anything():
                if not isinstance(thing, (list, tuple)):
                    self.refused(NoRow(-1), level_rows, table, thing)
                if repr(thing) not in ("'a'", "'b'"):
                    self.refused(NoRow(1), level_rows, table, ["a", thing, "q"])


class Elders(Refusing):
    def test_by_hand(self):
        self.assertEqual(elders(crossing(), ("a", "c", "a", "c")), 4)
        self.assertEqual(elders(crossing(), ("c",)), 1)
        self.assertEqual(elders(exchange(6), ("a",) * 60), 6 ** 60)
        self.assertEqual(elders(exchange(6), ("a",)), 6)
        self.assertEqual(elders(exchange(1), ("a",) * 60), 1)
        self.assertEqual(elders(standing(6), ("a", "f", "c")), 1)
        self.assertEqual(elders(second_given(), ("b",)), 1)
        self.assertEqual(elders(ringed(3, 1, 1), ("a", "a")), 9)

    def test_going_through_all(self):
        for table in some_tables():
            if well_fault(table) is not None:
                continue
            made, firsts = made_one(table)
            many = {}
            for row in product(table.marks(), repeat=3):
                goal = tuple(firsts[mark] for mark in row)
                many[goal] = many.get(goal, 0) + 1
            self.assertEqual({row: elders(table, row) for row in product(made.marks(), repeat=3)}, many)

    def test_lists_and_names(self):
        row = ["a", "c"]
        self.assertEqual(elders(row=row, table=crossing()), 2)
        self.assertEqual(row, ["a", "c"])

    def test_rows_by_the_next_levels_marks(self):
        self.refused(NoRow(1), elders, crossing(), ("a", "b"))
        self.refused(NoRow(0), elders, exchange(6), ("f",))
        self.refused(NoRow(2), elders, parted_below(), ("c", "b", "d"))
        self.refused(NoRow(0), elders, standing(2), ("c",))
        for thing in anything():
            if not isinstance(thing, (list, tuple)):
                self.refused(NoRow(-1), elders, crossing(), thing)
            if repr(thing) != "'a'":
                self.refused(NoRow(1), elders, crossing(), ["a", thing, "q"])
        self.refused(NoRow(-1), elders, crossing(), ("a",) * 61)
        self.refused(NoRow(-1), elders, crossing(), ())

    def test_tables_that_are_not_well_told(self):
        error = NotWell((("a", "c"), ("b", "c")))
        for row in (("a",), ("b",), ("q",), (), None, 7):
            self.refused(error, elders, parted(), row)
        self.assertEqual(elders(summed(2), ("a", "b")), 1)


if __name__ == "__main__":
    unittest.main()

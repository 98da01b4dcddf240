import unittest
from itertools import product

from passmarks.errors import NoRow, NotSided, NotThree
from passmarks.faults import one_fault, sided_fault, three_fault, twice_fault
from passmarks.passes import row_behind
from passmarks.plainrows import plain, plain_table, row_of_plain
from passmarks.tables import Table
from tests.things import (Refusing, anything, crossing, exchange, gentle_threes, mirrored, ringed, second_given,
                          sided_threes, standing, summed, swap_unlike_first, two_mark_tables)


def rows(table, most):
    return [row for places in range(1, most + 1) for row in product(table.marks(), repeat=places)]


def plain_by_passes(table, row):
    """Each runner passes all behind it, and then stands at the last place."""
    last = len(row) - 1
    return tuple(row_behind(table, row, tuple(range(place, last)))[last] for place in range(len(row)))


class Plain(Refusing):
    def test_by_hand(self):
        self.assertEqual(plain(ringed(4, 0, 1), ("a", "a", "a", "b")), ("d", "c", "b", "b"))
        self.assertEqual(plain(crossing(), ("a", "c", "b", "c", "c")), ("b", "c", "b", "c", "c"))
        self.assertEqual(plain(second_given(), ("a", "a", "b", "a")), ("a", "a", "a", "a"))
        self.assertEqual(plain(exchange(3), ("c", "a", "b")), ("c", "a", "b"))

    def test_of_any_table(self):
        for table in two_mark_tables():
            for row in rows(table, 4):
                self.assertEqual(plain(table, row), plain_by_passes(table, row))
        for table in (crossing(), mirrored(), summed(4), summed(6), ringed(5, 2, 2)):
            for row in rows(table, 3):
                self.assertEqual(plain(table, row), plain_by_passes(table, row))

    def test_one_place_and_sixty(self):
        self.assertEqual(plain(summed(6), ("d",)), ("d",))
        self.assertEqual(plain(exchange(1), ("a",) * 60), ("a",) * 60)
        self.assertEqual(plain(ringed(6, 0, 1), ("a",) * 60), tuple("fedcba" * 10))
        row = tuple("abcacb" * 10)
        self.assertEqual(plain(crossing(), row), plain_by_passes(crossing(), row))

    def test_lists_and_names(self):
        row = ["a", "c"]
        told = plain(row=row, table=crossing())
        self.assertEqual(told, ("b", "c"))
        self.assertIsInstance(told, tuple)
        self.assertEqual(row, ["a", "c"])

    def test_refused(self):
        for table in (exchange(2), second_given(), swap_unlike_first()):
            self.refused(NoRow(-1), plain, table, ())
            self.refused(NoRow(-1), plain, table, ("a",) * 61)
            self.refused(NoRow(2), plain, table, ("a", "b", "c"))
            for thing in anything():
                if not isinstance(thing, (tuple, list)):
                    self.refused(NoRow(-1), plain, table, thing)
                if repr(thing) not in ("'a'", "'b'"):
                    self.refused(NoRow(1), plain, table, ["a", thing, thing])


class PlainTables(Refusing):
    def test_by_hand(self):
        self.assertTrue(plain_table(exchange(4)) == exchange(4))
        self.assertTrue(plain_table(ringed(5, 2, 3)) == exchange(5))
        self.assertTrue(plain_table(ringed(3, 1, 1)) == ringed(3, 2, 0))
        self.assertTrue(plain_table(ringed(3, 1, 0)) == ringed(3, 1, 0))
        self.assertTrue(plain_table(mirrored()) == mirrored())
        self.assertTrue(plain_table(exchange(1)) == exchange(1))
        self.assertTrue(plain_table(ringed(6, 4, 5)) == ringed(6, 3, 0))
        self.assertEqual(plain_table(crossing()).marks(), ["c", "a", "b"])

    def test_passes_change_plain_rows_by_it(self):
        self.assertGreater(len(sided_threes()), 60)
        for table in sided_threes() + [crossing(), ringed(4, 1, 2)]:
            made = plain_table(table)
            self.assertIsInstance(made, Table)
            self.assertEqual(made.marks(), table.marks())
            for row in rows(table, 3):
                for place in range(len(row) - 1):
                    behind = row_behind(table, row, (place,))
                    self.assertEqual(plain(table, behind), row_behind(made, plain(table, row), (place,)))

    def test_what_it_is_itself(self):
        for table in sided_threes():
            made = plain_table(table)
            self.assertIsNone(three_fault(made))
            self.assertTrue(plain_table(made) == made)
            self.assertEqual(twice_fault(made) is None, twice_fault(table) is None)
            if twice_fault(table) is None:
                self.assertTrue(made == exchange(3))
            for x, y in product("abc", repeat=2):
                self.assertEqual(made.passed(x, y)[1], x)


class RowsOfPlain(Refusing):
    def test_by_hand(self):
        self.assertEqual(row_of_plain(exchange(3), ("c", "a", "b")), ("c", "a", "b"))
        self.assertEqual(row_of_plain(ringed(4, 0, 1), ("d", "c", "b", "b")), ("a", "a", "a", "b"))
        self.assertEqual(row_of_plain(crossing(), ("b", "c", "b", "c", "c")), ("a", "c", "b", "c", "c"))

    def test_each_row_is_just_one_rows_plain_row(self):
        for table in sided_threes() + [crossing(), ringed(4, 3, 2)]:
            for places in (1, 2, 3):
                found = {plain(table, row): row for row in product(table.marks(), repeat=places)}
                self.assertEqual(len(found), len(table.marks()) ** places)
                for told, row in found.items():
                    self.assertEqual(row_of_plain(table, told), row)

    def test_sixty_places(self):
        for table in (crossing(), ringed(3, 1, 1), mirrored()):
            for row in (("a",) * 60, tuple("abc" * 20), tuple("aabccb" * 10)):
                self.assertEqual(plain(table, row_of_plain(table, row)), row)
                self.assertEqual(row_of_plain(table, plain(table, row)), row)
        self.assertEqual(row_of_plain(exchange(1), ("a",) * 60), ("a",) * 60)

    def test_lists_and_names(self):
        row = ["b", "c"]
        told = row_of_plain(row=row, table=crossing())
        self.assertEqual(told, ("a", "c"))
        self.assertIsInstance(told, tuple)
        self.assertEqual(row, ["b", "c"])
        self.assertTrue(plain_table(table=crossing()) == plain_table(crossing()))


class Refused(Refusing):
    def test_tables_that_are_not_three(self):
        for table in (summed(2), summed(6), swap_unlike_first()):
            error = NotThree(three_fault(table))
            self.refused(error, plain_table, table)
            for row in (("a", "b"), (), None, ("q",)):
                self.refused(error, row_of_plain, table, row)
        self.refused(NotThree(("a", "a", "b")), plain_table, swap_unlike_first())
        self.refused(NotThree(("b", "a", "a")), plain_table, summed(2))

    def test_tables_that_are_three_and_not_sided(self):
        self.refused(NotSided(("second", "a", "a", "b")), plain_table, standing(2))
        first = Table(["a", "b"], [[("a", "a"), ("a", "a")], [("a", "b"), ("a", "b")]])
        self.refused(NotSided(("first", "a", "a", "b")), plain_table, first)
        for row in (("a", "b"), (), None, ("q",)):
            self.refused(NotSided(("first", "a", "a", "b")), row_of_plain, first, row)
            self.refused(NotSided(sided_fault(second_given())), row_of_plain, second_given(), row)

    def test_all_tables_of_two_marks(self):
        told = 0
        for table in two_mark_tables():
            if three_fault(table) is not None:
                self.refused(NotThree(three_fault(table)), plain_table, table)
                self.refused(NotThree(three_fault(table)), row_of_plain, table, ())
            elif sided_fault(table) is not None:
                self.refused(NotSided(sided_fault(table)), plain_table, table)
                self.refused(NotSided(sided_fault(table)), row_of_plain, table, ())
            else:
                plain_table(table)
                self.refused(NoRow(-1), row_of_plain, table, ())
                told += 1
        self.assertEqual(told, 4)

    def test_rows(self):
        for table in [exchange(1), exchange(6), crossing(), mirrored()] + gentle_threes()[:2]:
            self.refused(NoRow(-1), row_of_plain, table, ())
            self.refused(NoRow(-1), row_of_plain, table, ("a",) * 61)
            self.refused(NoRow(1), row_of_plain, table, ("a", "q"))
            for thing in anything():
                if not isinstance(thing, (tuple, list)):
                    self.refused(NoRow(-1), row_of_plain, table, thing)
                if repr(thing) not in ("'a'", "'b'"):
                    self.refused(NoRow(0), row_of_plain, table, [thing, "q"])

    def test_one_one_is_not_asked(self):
        self.assertIsNone(one_fault(standing(3)))
        self.refused(NotSided(sided_fault(standing(3))), plain_table, standing(3))


if __name__ == "__main__":
    unittest.main()

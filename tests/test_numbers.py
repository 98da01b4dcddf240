import unittest
from itertools import product

from passmarks.errors import NoNumber, NoRow, NotSided, NotThree, NotTwice, NoWord
from passmarks.faults import sided_fault, three_fault, twice_fault
from passmarks.numbers import left_by, lot_size, lots_of, number_of, row_at
from passmarks.passes import row_behind
from passmarks.plainrows import plain
from tests.things import (Refusing, anything, crossing, exchange, far_by_going, gentle_threes, mirrored, remarked,
                          ringed, second_given, standing, summed, swap_unlike_first, two_mark_tables, ungentle)

ROW_CALLS = (lot_size, number_of, lambda table, row: row_at(table, row, None))
PLACES_CALLS = (lots_of, lambda table, places: left_by(table, places, None))


def some_gentle():
    return gentle_threes()[::3] + [crossing(), exchange(1), exchange(2), ringed(2, 1, 1),
                                   remarked(ringed(3, 1, 2), ["b", "c", "a"])]


def rising(table, rows):
    """Rows of a lot by their plain rows, by the marks' order."""
    marks = table.marks()
    return sorted(rows, key=lambda row: [marks.index(mark) for mark in plain(table, row)])


class Lots(unittest.TestCase):
    def test_all_rows_of_few_places(self):
        for table in some_gentle():
            for places in range(1, 5):
                lots = set()
                for row in product(table.marks(), repeat=places):
                    lot = rising(table, far_by_going(table, row))
                    self.assertEqual(lot_size(table, row), len(lot))
                    self.assertEqual(number_of(table, row), lot.index(row))
                    self.assertEqual([row_at(table, row, number) for number in range(len(lot))], lot)
                    lots.add(tuple(lot))
                self.assertEqual(lots_of(table, places), len(lots))

    def test_by_hand(self):
        table = exchange(3)
        self.assertEqual(lot_size(table, ("b", "a", "c", "a")), 12)
        self.assertEqual(number_of(table, ("b", "a", "c", "a")), 7)
        self.assertEqual(row_at(table, ("a", "a", "b", "c"), 7), ("b", "a", "c", "a"))
        self.assertEqual(lots_of(table, 4), 15)
        turned = remarked(exchange(2), ["b", "a"])
        self.assertEqual(number_of(turned, ("b", "a")), 0)
        self.assertEqual(row_at(turned, ("b", "a"), 1), ("a", "b"))

    def test_one_place_and_one_mark(self):
        self.assertEqual([lot_size(exchange(6), ("f",)), number_of(exchange(6), ("f",))], [1, 0])
        self.assertEqual(row_at(exchange(6), ("f",), 0), ("f",))
        self.assertEqual([lots_of(exchange(6), 1), lots_of(exchange(1), 1), lots_of(exchange(1), 60)], [6, 1, 1])
        self.assertEqual(lot_size(exchange(1), ("a",) * 60), 1)
        self.assertEqual(row_at(exchange(1), ("a",) * 60, 0), ("a",) * 60)

    def test_sixty_places(self):
        size = 118264581564861424
        row = ("a",) * 30 + ("b",) * 30
        self.assertEqual(lot_size(exchange(2), row), size)
        self.assertEqual([number_of(exchange(2), row), number_of(exchange(2), row[::-1])], [0, size - 1])
        self.assertEqual([row_at(exchange(2), row, 0), row_at(exchange(2), row, size - 1)], [row, row[::-1]])
        self.assertEqual(lots_of(exchange(6), 60), 8259888)
        self.assertEqual(lots_of(exchange(2), 60), 61)
        for table in (crossing(), ringed(6, 1, 5)):
            row = tuple("abcacb" * 10)
            many = lot_size(table, row)
            self.assertGreater(many, 10 ** 20)
            for number in (0, 1, 12345, many // 3, many - 2, many - 1):
                found = row_at(table, row, number)
                self.assertEqual(sorted(plain(table, found)), sorted(plain(table, row)))
                self.assertEqual(number_of(table, found), number)
            self.assertEqual(row_at(table, row, number_of(table, row)), row)

    def test_ten_of_each_of_six(self):
        row = tuple("abcdef" * 10)
        many = 1
        for left in range(60, 0, -1):
            many *= left
        for _ in range(6):
            many //= 3628800
        self.assertEqual(lot_size(exchange(6), row), many)
        self.assertEqual(row_at(exchange(6), row, many - 1), tuple("f" * 10 + "e" * 10 + "d" * 10) +
                         tuple("c" * 10 + "b" * 10 + "a" * 10))

    def test_lists_and_names(self):
        row = ["b", "a"]
        self.assertEqual(lot_size(row=row, table=exchange(2)), 2)
        self.assertEqual(number_of(row=row, table=exchange(2)), 1)
        told = row_at(number=0, row=row, table=exchange(2))
        self.assertEqual(told, ("a", "b"))
        self.assertIsInstance(told, tuple)
        self.assertEqual(lots_of(places=2, table=exchange(2)), 3)
        self.assertEqual(left_by(word=[0], places=2, table=exchange(2)), 2)
        self.assertEqual(row, ["b", "a"])


class Left(unittest.TestCase):
    def test_all_words_of_few_passes(self):
        for table in (crossing(), ringed(3, 1, 2), exchange(2), ringed(2, 1, 1), exchange(1)):
            for places in range(1, 5):
                rows = list(product(table.marks(), repeat=places))
                words = [word for many in range(4) for word in product(range(places - 1), repeat=many)]
                for word in words[:20]:
                    left = sum(row_behind(table, row, word) == row for row in rows)
                    self.assertEqual(left_by(table, places, word), left)

    def test_one_place_and_sixty(self):
        self.assertEqual(left_by(exchange(6), 1, ()), 6)
        self.assertEqual(left_by(exchange(6), 60, ()), 6 ** 60)
        self.assertEqual(left_by(exchange(6), 60, tuple(range(59))), 6)
        self.assertEqual(left_by(ringed(6, 1, 5), 60, (0, 58)), 6 ** 58)
        self.assertEqual(left_by(crossing(), 60, (7,) * 2000), 3 ** 60)
        self.assertEqual(left_by(crossing(), 60, (7,) * 1999), 3 ** 59)
        self.assertEqual(left_by(exchange(1), 60, tuple(range(59))), 1)


class Refused(Refusing):
    def test_tables(self):
        for call in ROW_CALLS:
            for table in (summed(2), swap_unlike_first()):
                self.refused(NotThree(three_fault(table)), call, table, ())
            for table in (second_given(), standing(2)):
                self.refused(NotSided(sided_fault(table)), call, table, ())
            for table in (mirrored(), ringed(3, 1, 1)):
                self.refused(NotTwice(twice_fault(table)), call, table, ())

    def test_all_tables_of_two_marks(self):
        for table in two_mark_tables():
            due = ungentle(table)
            for call in ROW_CALLS:
                self.refused(due or NoRow(0), call, table, ("q",))
            for call in PLACES_CALLS:
                self.refused(NoNumber(61), call, table, 61)
            if due:
                self.refused(due, lots_of, table, 60)
            self.refused(due or NoWord(-1), left_by, table, 60, None)

    def test_rows_of_anything(self):
        for call in ROW_CALLS:
            self.refused(NoRow(-1), call, crossing(), ("a",) * 61)
            for thing in anything():
                if not isinstance(thing, (list, tuple)):
                    self.refused(NoRow(-1), call, crossing(), thing)
                if repr(thing) not in ("'a'", "'b'"):
                    self.refused(NoRow(2), call, crossing(), ["a", "b", thing, "q"])

    def test_numbers_of_anything(self):
        for thing in anything() + [3, 10 ** 61]:
            if repr(thing) in ("0", "1", "2"):
                self.assertEqual(row_at(exchange(2), ("a", "b", "a"), thing),
                                 [("a", "a", "b"), ("a", "b", "a"), ("b", "a", "a")][thing])
            else:
                self.refused(NoNumber(thing), row_at, exchange(2), ("a", "b", "a"), thing)
            self.refused(NoRow(1), row_at, exchange(2), ("a", "q"), thing)
        self.refused(NoNumber(1), row_at, exchange(1), ("a",) * 60, 1)
        self.refused(NoNumber(118264581564861424), row_at, exchange(2), ("a", "b") * 30, 118264581564861424)

    def test_places_of_anything(self):
        for call in PLACES_CALLS:
            for table in (exchange(2), summed(2), standing(2), mirrored()):
                for thing in anything():
                    if repr(thing) not in ("1", "2", "59", "60"):
                        self.refused(NoNumber(thing), call, table, thing)

    def test_words_of_anything(self):
        for thing in anything():
            if not isinstance(thing, (list, tuple)):
                self.refused(NoWord(-1), left_by, exchange(2), 3, thing)
            if repr(thing) not in ("0", "1"):
                self.refused(NoWord(1), left_by, exchange(2), 3, [1, thing, "q"])
        self.refused(NoWord(0), left_by, exchange(2), 1, (0,))
        self.refused(NoWord(-1), left_by, exchange(2), 2, (0,) * 2001)
        self.assertEqual(left_by(exchange(2), 2, (0,) * 2000), 4)


if __name__ == "__main__":
    unittest.main()

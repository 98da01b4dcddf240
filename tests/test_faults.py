import unittest
from itertools import product

from passmarks.faults import one_fault, sided_fault, three_fault, twice_fault
from passmarks.tables import Table
from tests.things import (exchange, remarked, ringed, second_given, standing, swap_unlike_first, table_of,
                          two_mark_tables)


def passes(table, row, places):
    """The row behind passes, done by the told pairs alone."""
    marks, pairs = table.marks(), table.pairs()
    row = list(row)
    for place in places:
        row[place:place + 2] = pairs[marks.index(row[place])][marks.index(row[place + 1])]
    return tuple(row)


def by_hand(table):
    """All four faults, each the least of all that there are."""
    marks = table.marks()

    def rank(told):
        return [marks.index(mark) for mark in told]

    def least(found, key):
        return min(found, key=key) if found else None

    three = [row for row in product(marks, repeat=3)
             if passes(table, row, (0, 1, 0)) != passes(table, row, (1, 0, 1))]
    twice = [row for row in product(marks, repeat=2) if passes(table, row, (0, 0)) != row]
    ones = [(p, q) for p in product(marks, repeat=2) for q in product(marks, repeat=2)
            if rank(p) < rank(q) and passes(table, p, (0,)) == passes(table, q, (0,))]
    twos = [(x, y) for x in marks for y in marks if rank([x]) < rank([y])]
    sided = [("second", held, x, y) for held in marks for x, y in twos
             if table.passed(x, held)[1] == table.passed(y, held)[1]]
    sided += [("first", held, x, y) for held in marks for x, y in twos
              if table.passed(held, x)[0] == table.passed(held, y)[0]]
    return (least(three, rank), least(twice, rank), least(ones, lambda two: [rank(two[0]), rank(two[1])]),
            least(sided, lambda told: (told[0] == "first", rank(told[1:]))))


def told(table):
    return three_fault(table), twice_fault(table), one_fault(table), sided_fault(table)


class Faults(unittest.TestCase):
    def test_no_fault(self):
        for many in range(1, 7):
            self.assertEqual(told(exchange(many)), (None, None, None, None))
        self.assertEqual(told(ringed(5, 2, 3)), (None, None, None, None))
        self.assertEqual(told(Table(["a"], [[("a", "a")]])), (None, None, None, None))

    def test_some_tables(self):
        self.assertEqual(told(standing(2)), (None, None, None, ("second", "a", "a", "b")))
        self.assertEqual(told(ringed(3, 1, 1)), (None, ("a", "a"), None, None))
        self.assertEqual(told(second_given()),
                         (None, ("a", "b"), (("a", "a"), ("b", "a")), ("second", "a", "a", "b")))
        self.assertEqual(told(swap_unlike_first()),
                         (("a", "a", "b"), None, None, ("second", "a", "a", "b")))

    def test_one_one_skips_pairs_between(self):
        table = Table(["a", "b"], [[("a", "a"), ("b", "b")], [("b", "b"), ("a", "a")]])
        self.assertEqual(one_fault(table), (("a", "a"), ("b", "b")))
        table = Table(["a", "b"], [[("a", "b"), ("b", "a")], [("a", "a"), ("b", "a")]])
        self.assertEqual(one_fault(table), (("a", "b"), ("b", "b")))

    def test_sided_first_alone(self):
        table = table_of(["a", "b", "c"], lambda x, y: ("a" if (x, y) == ("b", "c") else y, x))
        self.assertEqual(sided_fault(table), ("first", "b", "a", "c"))
        table = table_of(["a", "b", "c"], lambda x, y: (y, "c" if (x, y) == ("b", "c") else x))
        self.assertEqual(sided_fault(table), ("second", "c", "b", "c"))

    def test_second_goes_ahead_of_first(self):
        table = table_of(["a", "b", "c"], lambda x, y: ("c", x if y != "c" else "a"))
        self.assertEqual(sided_fault(table), ("second", "c", "a", "b"))

    def test_by_the_order_of_the_marks(self):
        table = second_given()
        self.assertEqual(twice_fault(remarked(table, ["b", "a"])), ("b", "a"))
        self.assertEqual(one_fault(remarked(table, ["b", "a"])), (("b", "b"), ("a", "b")))
        self.assertEqual(sided_fault(remarked(table, ["b", "a"])), ("second", "b", "b", "a"))
        self.assertEqual(three_fault(remarked(swap_unlike_first(), ["b", "a"])), ("b", "b", "b"))

    def test_like_marks_pass_one_another_too(self):
        table = table_of(["a", "b"], lambda x, y: ("b", "a") if (x, y) == ("b", "b") else (y, x))
        self.assertEqual(twice_fault(table), ("b", "b"))
        self.assertEqual(three_fault(table), by_hand(table)[0])

    def test_all_tables_of_two_marks(self):
        seen = set()
        for table in two_mark_tables():
            for one in (table, remarked(table, ["b", "a"])):
                self.assertEqual(told(one), by_hand(one))
            seen.add(tuple(fault is None for fault in told(table)))
        self.assertGreater(len(seen), 8)

    def test_many_tables_of_three_marks(self):
        marks = ["c", "a", "b"]
        pairs = list(product(marks, repeat=2))
        for seed in range(300):
            table = table_of(marks, lambda x, y: pairs[
                (seed * 7 + (marks.index(x) * 3 + marks.index(y)) ** (2 + seed % 3) * (1 + seed // 9)) % 9])
            self.assertEqual(told(table), by_hand(table))

    def test_by_names(self):
        table = second_given()
        self.assertEqual(twice_fault(table=table), ("a", "b"))
        self.assertIsNone(three_fault(table=table))
        self.assertEqual(one_fault(table=table), (("a", "a"), ("b", "a")))
        self.assertEqual(sided_fault(table=table), ("second", "a", "a", "b"))

    def test_the_table_stays(self):
        table = swap_unlike_first()
        told(table)
        self.assertTrue(table == swap_unlike_first())


if __name__ == "__main__":
    unittest.main()

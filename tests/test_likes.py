import unittest
from itertools import product

from passmarks.errors import NotWell
from passmarks.faults import sided_fault, three_fault
from passmarks.likes import alike_lots, made_one, well_fault
from passmarks.passes import row_behind
from passmarks.tables import Table
from tests.things import (Refusing, crossing, exchange, letters, mirrored, parted, parted_below, remarked, ringed,
                          second_given, sided_threes, standing, summed, table_of, two_mark_tables)


def tables_with_likes():
    """Tables of the marks c, a, b in which a and b are alike, some of them well told and some not."""
    found = []
    for seed in range(0, 3 ** 14, 6571):
        digits = [seed // 3 ** at % 3 for at in range(14)]
        # What tells a from b is left out of what is asked: the first marks by the one ahead, the second by the other.
        first = {(x, z): "cab"[digits[3 * (x != "c") + "cab".index(z)]] for x in "cab" for z in "cab"}
        second = {(z, x): "cab"[digits[6 + 2 * "cab".index(z) + (x != "c")]] for x in "cab" for z in "cab"}
        found.append(table_of(["c", "a", "b"], lambda x, y: (first[x, y], second[x, y])))
    return found


def some_tables():
    return two_mark_tables() + sided_threes() + tables_with_likes() + [
        crossing(), mirrored(), parted(), parted_below(), summed(4), standing(6), exchange(6), exchange(1),
        remarked(parted(), ["b", "c", "a"])]


def alike(table, x, y):
    return all(table.passed(x, z)[0] == table.passed(y, z)[0] and table.passed(z, x)[1] == table.passed(z, y)[1]
               for z in table.marks())


def lots_by_hand(table):
    marks = table.marks()
    lots = {tuple(other for other in marks if alike(table, mark, other)) for mark in marks}
    return sorted(lots, key=lambda lot: marks.index(lot[0]))


def faults_by_hand(table):
    """All pairs of alike pairs whose passes made one are unlike."""
    lots = {mark: lot for lot in lots_by_hand(table) for mark in lot}
    pairs = list(product(table.marks(), repeat=2))
    return [(p, q) for p in pairs for q in pairs if lots[p[0]] == lots[q[0]] and lots[p[1]] == lots[q[1]]
            and any(lots[m] != lots[n] for m, n in zip(table.passed(*p), table.passed(*q)))]


class Alike(unittest.TestCase):
    def test_by_hand(self):
        self.assertEqual(alike_lots(exchange(6)), [("a", "b", "c", "d", "e", "f")])
        self.assertEqual(alike_lots(standing(6)), [(mark,) for mark in "abcdef"])
        self.assertEqual(alike_lots(exchange(1)), [("a",)])
        self.assertEqual(alike_lots(crossing()), [("c",), ("a", "b")])
        self.assertEqual(alike_lots(remarked(crossing(), ["a", "c", "b"])), [("a", "b"), ("c",)])
        self.assertEqual(alike_lots(remarked(crossing(), ["b", "c", "a"])), [("b", "a"), ("c",)])
        self.assertEqual(alike_lots(parted()), [("a", "b"), ("c",)])
        self.assertEqual(alike_lots(parted_below()), [("a",), ("b",), ("c", "d")])

    def test_each_mark_is_asked_with_itself_and_the_other_too(self):
        # Only the pass of b ahead of b tells it from a.
        table = table_of(["a", "b", "c"], lambda x, y: ("c" if (x, y) == ("b", "b") else "a", "a"))
        self.assertEqual(alike_lots(table), [("a", "c"), ("b",)])
        table = table_of(["a", "b", "c"], lambda x, y: ("a", "c" if (x, y) == ("b", "a") else "a"))
        self.assertEqual(alike_lots(table), [("a",), ("b", "c")])

    def test_which_sides_tell(self):
        # First marks by the one ahead, second ones by the one behind; the others tell none.
        self.assertEqual(alike_lots(table_of(["a", "b"], lambda x, y: (y, x))), [("a", "b")])
        self.assertEqual(alike_lots(table_of(["a", "b"], lambda x, y: (x, x))), [("a",), ("b",)])
        self.assertEqual(alike_lots(table_of(["a", "b"], lambda x, y: (y, y))), [("a",), ("b",)])

    def test_many_tables(self):
        for table in some_tables():
            told = alike_lots(table)
            self.assertEqual(told, lots_by_hand(table))
            self.assertTrue(all(isinstance(lot, tuple) for lot in told))
            self.assertEqual(sorted(sum(told, ())), sorted(table.marks()))

    def test_told_lists_changed_afterwards(self):
        table = crossing()
        alike_lots(table=table).clear()
        self.assertEqual(alike_lots(table), [("c",), ("a", "b")])


class Well(unittest.TestCase):
    def test_by_hand(self):
        self.assertEqual(well_fault(parted()), (("a", "c"), ("b", "c")))
        self.assertEqual(well_fault(remarked(parted(), ["b", "c", "a"])), (("b", "c"), ("a", "c")))
        self.assertEqual(well_fault(table=parted()), (("a", "c"), ("b", "c")))
        for table in (exchange(6), standing(6), crossing(), exchange(1), parted_below()):
            self.assertIsNone(well_fault(table))

    def test_many_tables(self):
        told = []
        for table in some_tables():
            marks = table.marks()
            faults = faults_by_hand(table)
            faults.sort(key=lambda two: [marks.index(mark) for pair in two for mark in pair])
            least = faults[0] if faults else None
            self.assertEqual(well_fault(table), least)
            told.append(least)
        self.assertGreater(len([fault for fault in told if fault]), 100)
        self.assertGreaterEqual(len(set(told)), 6)

    def test_none_of_tables_that_are_three_and_sided(self):
        for table in sided_threes() + [ringed(6, 2, 1), crossing(), mirrored()]:
            self.assertIsNone(well_fault(table))
            made = made_one(table)[0]
            self.assertIsNone(three_fault(made))
            self.assertIsNone(sided_fault(made))


class MadeOne(Refusing):
    def test_by_hand(self):
        self.assertEqual(made_one(exchange(6)), (exchange(1), {mark: "a" for mark in letters(6)}))
        self.assertEqual(made_one(exchange(1)), (exchange(1), {"a": "a"}))
        self.assertEqual(made_one(standing(3)), (standing(3), {"a": "a", "b": "b", "c": "c"}))
        made = Table(["c", "a"], [[("c", "c"), ("a", "c")], [("c", "a"), ("a", "a")]])
        self.assertEqual(made_one(crossing()), (made, {"c": "c", "a": "a", "b": "a"}))
        self.assertEqual(made_one(second_given())[0], second_given())
        table, firsts = made_one(parted_below())
        self.assertTrue(table == parted())
        self.assertEqual(list(firsts.items()), [("a", "a"), ("b", "b"), ("c", "c"), ("d", "c")])

    def test_what_a_pass_gives(self):
        for table in some_tables():
            if faults_by_hand(table):
                self.refused(NotWell(well_fault(table)), made_one, table)
                continue
            told = made_one(table)
            self.assertIsInstance(told, tuple)
            made, firsts = told
            self.assertIsInstance(made, Table)
            self.assertEqual(firsts, {mark: lot[0] for lot in lots_by_hand(table) for mark in lot})
            self.assertEqual(list(firsts), table.marks())
            self.assertEqual(made.marks(), [lot[0] for lot in lots_by_hand(table)])
            for x, y in product(table.marks(), repeat=2):
                self.assertEqual(made.passed(firsts[x], firsts[y]),
                                 tuple(firsts[mark] for mark in row_behind(table, (x, y), (0,))))

    def test_not_well(self):
        self.refused(NotWell((("a", "c"), ("b", "c"))), made_one, parted())

    def test_told_dicts_changed_afterwards(self):
        table = crossing()
        made_one(table=table)[1]["a"] = "c"
        self.assertEqual(made_one(table)[1], {"c": "c", "a": "a", "b": "a"})


if __name__ == "__main__":
    unittest.main()

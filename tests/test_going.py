import unittest
from itertools import product

from passmarks.errors import NoRow, TooMany
from passmarks.going import all_rows, far_rows, shows_never
from passmarks.tables import Table
from tests.things import (Refusing, anything, crossing, exchange, far_by_going, mirrored, remarked, second_given,
                          standing, summed, swap_unlike_first, table_of, two_mark_tables)

# Passes lead these rows to just 2000 rows, and to just 2001.
JUST_MOST = (Table(["a", "b"], [[("a", "b"), ("b", "b")], [("b", "a"), ("a", "b")]]), tuple("bbbbbaaaaaa"))
ONE_MORE = (Table(["a", "b"], [[("a", "a"), ("a", "b")], [("a", "b"), ("a", "b")]]), tuple("abbaababbbbaa"))


def some_tables():
    return two_mark_tables()[::7] + [crossing(), mirrored(), summed(3), standing(3), exchange(1),
                                     remarked(summed(3), ["c", "a", "b"])]


class Rows(Refusing):
    def test_all_rows_of_few_places(self):
        for table in some_tables():
            marks = table.marks()
            for places in range(1, 4):
                for row in product(marks, repeat=places):
                    far = far_by_going(table, row)
                    told = far_rows(table, row)
                    self.assertIsInstance(told, dict)
                    self.assertEqual(told, far)
                    rows = all_rows(table, row)
                    self.assertIsInstance(rows, list)
                    self.assertEqual(rows, sorted(far, key=lambda one: [marks.index(mark) for mark in one]))

    def test_by_hand(self):
        self.assertEqual(all_rows(exchange(2), ("b", "a", "b")), [("a", "b", "b"), ("b", "a", "b"), ("b", "b", "a")])
        self.assertEqual(far_rows(exchange(2), ("b", "b", "a")),
                         {("b", "b", "a"): 0, ("b", "a", "b"): 1, ("a", "b", "b"): 2})
        self.assertEqual(all_rows(remarked(exchange(2), ["b", "a"]), ("a", "b")), [("b", "a"), ("a", "b")])
        self.assertEqual(far_rows(second_given(), ("a", "b", "a")),
                         {("a", "b", "a"): 0, ("b", "b", "a"): 1, ("a", "a", "a"): 1, ("b", "a", "a"): 2})

    def test_one_place_and_sixty(self):
        for table in (exchange(6), summed(6)):
            self.assertEqual(all_rows(table, ("f",)), [("f",)])
            self.assertEqual(far_rows(table, ("f",), most=1), {("f",): 0})
        self.assertEqual(all_rows(exchange(1), ("a",) * 60), [("a",) * 60])
        row = ("b",) + ("a",) * 59
        self.assertEqual(far_rows(exchange(2), row),
                         {("a",) * place + ("b",) + ("a",) * (59 - place): place for place in range(60)})
        self.assertEqual(len(all_rows(exchange(2), ("b", "b") + ("a",) * 58)), 1770)

    def test_as_many_as_are_let_and_one_more(self):
        for call in (all_rows, far_rows):
            for table, row in ((exchange(2), ("a", "a", "b", "b", "b")), (summed(3), ("a", "b", "c")),
                               (swap_unlike_first(), ("a", "b", "b", "b"))):
                many = len(far_by_going(table, row))
                self.assertEqual(len(call(table, row, most=many)), many)
                self.assertEqual(len(call(table, row, most=2000)), many)
                for most in range(1, many):
                    self.refused(TooMany(most), call, table, row, most=most)

    def test_most_where_it_is_left_out(self):
        for call in (all_rows, far_rows):
            self.assertEqual(len(call(*JUST_MOST)), 2000)
            self.assertEqual(len(call(*JUST_MOST, most=2000)), 2000)
            self.refused(TooMany(1999), call, *JUST_MOST, most=1999)
            self.refused(TooMany(2000), call, *ONE_MORE)
            self.refused(TooMany(2000), call, *ONE_MORE, most=2000)
            self.refused(TooMany(2000), call, exchange(2), ("a", "b") * 30)
            self.refused(TooMany(1), call, exchange(2), ("a", "b") * 30, most=1)
            self.assertRaises(TypeError, call, exchange(2), ("a", "b"), 2000)

    def test_lists_and_names(self):
        row = ["b", "a"]
        self.assertEqual(all_rows(most=2, row=row, table=exchange(2)), [("a", "b"), ("b", "a")])
        self.assertEqual(far_rows(most=2, row=row, table=exchange(2)), {("b", "a"): 0, ("a", "b"): 1})
        self.assertEqual(row, ["b", "a"])

    def test_told_things_changed_afterwards(self):
        rows, far = all_rows(exchange(2), ("b", "a")), far_rows(exchange(2), ("b", "a"))
        rows.clear()
        far.clear()
        self.assertEqual(all_rows(exchange(2), ("b", "a")), [("a", "b"), ("b", "a")])
        self.assertEqual(far_rows(exchange(2), ("b", "a")), {("b", "a"): 0, ("a", "b"): 1})

    def test_refused(self):
        for call in (all_rows, far_rows):
            self.refused(NoRow(-1), call, exchange(2), ())
            self.refused(NoRow(-1), call, exchange(2), ("a",) * 61)
            self.refused(NoRow(2), call, exchange(2), ("a", "b", "c"), most=1)
            for thing in anything():
                if not isinstance(thing, (list, tuple)):
                    self.refused(NoRow(-1), call, summed(2), thing)
                if repr(thing) not in ("'a'", "'b'"):
                    self.refused(NoRow(1), call, summed(2), ["a", thing, "q"])


class Never(unittest.TestCase):
    def test_all_rows_of_few_places(self):
        for table in some_tables()[::3] + [crossing()]:
            for places in (1, 2, 3):
                rows = list(product(table.marks(), repeat=places))
                lots = {row: list(far_by_going(table, row)) for row in rows}
                for one in rows:
                    for other in rows:
                        never = other not in lots[one]
                        self.assertIs(shows_never(table, one, other, lots[one]), never)
                        self.assertIs(shows_never(table, one, other, lots[one][::-1]), never)

    def test_rows_more(self):
        table = exchange(2)
        lot = all_rows(table, ("a", "b"))
        for more in ([("a",)], [("b",) * 60], [("a", "a")], all_rows(table, ("a", "a", "b")), [("a",), ("b",)]):
            self.assertIs(shows_never(table, ("a", "b"), ("b", "b"), lot + more), True)
            self.assertIs(shows_never(table, ("a", "b"), ("b", "b"), more + lot), True)
            self.assertIs(shows_never(table, ("a", "b"), ("b", "b"), more), False)
        # Rows more are let by, but not one that a pass leads out of the list, nor the other row.
        self.assertIs(shows_never(table, ("a", "b"), ("b", "b"), lot + [("a", "a", "b")]), False)
        self.assertIs(shows_never(table, ("a", "b"), ("b", "b"), lot + [("b", "b")]), False)
        self.assertIs(shows_never(table, ("a", "b"), ("b", "b"), lot + [("a",) * 61]), False)
        self.assertIs(shows_never(table, ("a", "b"), ("b", "b"), lot + [()]), False)

    def test_rows_of_unlike_lengths(self):
        table = exchange(2)
        self.assertIs(shows_never(table, ("a", "b"), ("a",), all_rows(table, ("a", "b"))), True)
        self.assertIs(shows_never(table, ("a",), ("a", "b"), [("a",)]), True)
        self.assertIs(shows_never(table, ("a",), ("a",), [("a",)]), False)
        self.assertIs(shows_never(table, ("a",), ("b",), [("a",)]), True)
        self.assertIs(shows_never(table, ("a",) * 60, ("b",) * 60, [("a",) * 60]), True)

    def test_more_than_most(self):
        # A look isn't held to how many rows an answer may have.
        table, row = ONE_MORE
        lot = list(far_by_going(table, row))
        self.assertEqual(len(lot), 2001)
        self.assertIs(shows_never(table, row, ("a",), lot), True)
        self.assertIs(shows_never(table, row, ("a",), lot[:-1]), False)

    def test_a_pass_back_is_not_asked(self):
        table = second_given()
        self.assertIs(shows_never(table, ("a", "a"), ("a", "b"), [("a", "a")]), True)
        self.assertIs(shows_never(table, ("a", "b"), ("a", "a"), [("a", "b")]), False)
        self.assertIs(shows_never(table, ("a", "b"), ("a", "a"), [("a", "b"), ("b", "b")]), True)

    def test_spoilt_at_one_place(self):
        for table in (exchange(3), crossing(), summed(3)):
            one = ("a", "b", "b")
            lot = all_rows(table, one)
            others = [row for row in product("abc", repeat=3) if row not in lot]
            for other in others[:2] + [("a",)]:
                self.assertIs(shows_never(table, one, other, lot), True)
                for at, row in enumerate(lot):
                    ahead, behind = lot[:at], lot[at + 1:]
                    self.assertIs(shows_never(table, one, other, ahead + behind), False)
                    for wrong in (list(row), row + ("q",), row[:2] + ("q",), row[:2] + (None,), row[:2] + (("c",),), (),
                                  None, "".join(row), [row], (row,), {row: 1}, row[:2] + (["c"],), 7):
                        self.assertIs(shows_never(table, one, other, ahead + [wrong] + behind), False)
                        self.assertIs(shows_never(table, one, other, lot + [wrong]), False)
                    self.assertIs(shows_never(table, one, other, lot + [row]), False)
                self.assertIs(shows_never(table, one, other, lot + [other]), False)
                self.assertIs(shows_never(table, one, other, tuple(lot)), False)
                self.assertIs(shows_never(table, one, other, {row: 0 for row in lot}), False)

    def test_anything(self):
        for thing in anything():
            self.assertIs(shows_never(exchange(2), ("a",), ("b",), thing), False)
            good = isinstance(thing, tuple) and thing and set(map(repr, thing)) == {"'a'"}
            self.assertIs(shows_never(exchange(2), ("a", "a"), ("b",), [("a", "a"), thing]), bool(good))
            self.assertIs(shows_never(exchange(2), ("a", "a"), ("b",), [("a", "a"), (thing,)]), repr(thing) == "'a'")

    def test_lists_and_names(self):
        one, other, thing = ["a"], ["b"], [("a",)]
        self.assertIs(shows_never(thing=thing, other=other, one=one, table=exchange(2)), True)
        shows_never(exchange(2), one, other, [["a"]])
        self.assertEqual((one, other, thing), (["a"], ["b"], [("a",)]))


class NeverRefused(Refusing):
    def test_rows_of_anything(self):
        table = table_of(["a", "b"], lambda x, y: (x, "b"))
        for thing in anything():
            if not isinstance(thing, (list, tuple)):
                self.refused(NoRow(-1), shows_never, table, thing, ("q",), thing)
                self.refused(NoRow(-1), shows_never, table, ["a"], thing, thing)
            if repr(thing) not in ("'a'", "'b'"):
                self.refused(NoRow(2), shows_never, table, ["a", "b", thing], (), [])
                self.refused(NoRow(1), shows_never, table, ("a", "b"), ["b", thing], [])

    def test_the_first_then_the_other(self):
        self.refused(NoRow(0), shows_never, exchange(2), ("q",), (), None)
        self.refused(NoRow(-1), shows_never, exchange(2), ("a",), (), None)
        self.refused(NoRow(-1), shows_never, exchange(2), ("a",), ("a",) * 61, None)


if __name__ == "__main__":
    unittest.main()

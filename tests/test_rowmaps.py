import unittest
from itertools import product

from passmarks.carriers import through, through_from_behind
from passmarks.errors import NoRow, TooMany
from passmarks.faults import three_fault
from passmarks.passes import row_behind
from passmarks.rowmaps import all_row_maps, row_map
from tests.things import (ONE_MORE, TWO_THOUSAND, Refusing, anything, crossing, exchange, mapped, mirrored, remarked,
                          ringed, second_given, sided_threes, standing, summed, two_mark_tables)

# A map that changes no mark, of six.
STAY = ((0, 1, 2, 3, 4, 5),) * 6


def some_tables():
    return two_mark_tables()[::3] + sided_threes()[::9] + [
        crossing(), exchange(1), summed(3), remarked(summed(3), ["c", "a", "b"]), standing(3),
        remarked(mirrored(), ["b", "c", "a"])]


def out_of(table, row, behind):
    """What each mark comes out as, by single passes."""
    if behind:
        word = tuple(reversed(range(len(row))))
        return tuple(row_behind(table, row + (mark,), word)[0] for mark in table.marks())
    return tuple(row_behind(table, (mark,) + row, tuple(range(len(row))))[-1] for mark in table.marks())


def maps_by_length(table, behind, longest=7):
    """All maps that rows make, each with the fewest marks that make it, by going through all rows."""
    found = {}
    for places in range(1, longest + 1):
        fresh = {out_of(table, row, behind) for row in product(table.marks(), repeat=places)} - set(found)
        if not fresh:
            return found
        found.update({goals: places for goals in fresh})
    raise AssertionError("longer rows are needed")


class Maps(Refusing):
    def test_by_single_passes(self):
        for table in some_tables():
            for places in (1, 2, 3):
                for row in product(table.marks(), repeat=places):
                    for behind in (False, True):
                        told = row_map(table, row, behind=behind)
                        self.assertIsInstance(told, dict)
                        self.assertEqual(list(told), table.marks())
                        self.assertEqual(tuple(told.values()), out_of(table, row, behind))

    def test_by_hand(self):
        self.assertEqual(row_map(crossing(), ("c", "a")), {"c": "c", "a": "b", "b": "a"})
        self.assertEqual(row_map(ringed(3, 1, 2), ("a",)), {"a": "c", "b": "a", "c": "b"})
        self.assertEqual(row_map(ringed(3, 1, 2), ("a",), behind=True), {"a": "b", "b": "c", "c": "a"})
        self.assertEqual(row_map(ringed(3, 1, 2), ("a",), behind=False), row_map(ringed(3, 1, 2), ("a",)))
        self.assertEqual(row_map(second_given(), ("a", "b")), {"a": "b", "b": "b"})

    def test_no_pass_changes_it_where_the_table_is_three(self):
        for table in sided_threes()[::5] + [second_given(), standing(3), crossing()]:
            self.assertIsNone(three_fault(table))
            for row in product(table.marks(), repeat=3):
                for place in (0, 1):
                    passed = row_behind(table, row, (place,))
                    self.assertEqual(row_map(table, passed), row_map(table, row))
                    self.assertEqual(row_map(table, passed, behind=True), row_map(table, row, behind=True))

    def test_one_place_and_sixty(self):
        self.assertEqual(row_map(exchange(1), ("a",) * 60), {"a": "a"})
        self.assertEqual(row_map(ringed(6, 0, 1), ("a",) * 59), dict(zip("abcdef", "fabcde")))
        self.assertEqual(row_map(ringed(6, 0, 1), ("c",)), dict(zip("abcdef", "bcdefa")))
        self.assertEqual(row_map(ringed(6, 1, 0), ("c",) * 60, behind=True), dict(zip("abcdef", "abcdef")))
        row = tuple("abcacb" * 10)
        for table in (summed(3), mirrored()):
            self.assertEqual(row_map(table, row), {mark: through(table, mark, row)[1] for mark in "abc"})
            self.assertEqual(row_map(table, row, behind=True),
                             {mark: through_from_behind(table, mark, row)[1] for mark in "abc"})

    def test_lists_and_names(self):
        row = ["a", "b"]
        told = row_map(behind=True, row=row, table=crossing())
        self.assertEqual(told, row_map(crossing(), ("a", "b"), behind=True))
        told["a"] = "c"
        self.assertNotEqual(row_map(crossing(), row, behind=True), told)
        self.assertRaises(TypeError, row_map, crossing(), row, True)
        self.assertEqual(row, ["a", "b"])

    def test_refused(self):
        for behind in (False, True):
            self.refused(NoRow(-1), row_map, exchange(2), (), behind=behind)
            self.refused(NoRow(-1), row_map, exchange(2), ("a",) * 61, behind=behind)
            for thing in anything():
                if not isinstance(thing, (list, tuple)):
                    self.refused(NoRow(-1), row_map, summed(2), thing, behind=behind)
                if repr(thing) not in ("'a'", "'b'"):
                    self.refused(NoRow(1), row_map, summed(2), ["a", thing, "q"], behind=behind)


class AllMaps(Refusing):
    def check(self, table, behind, told):
        marks = table.marks()
        self.assertIsInstance(told, list)
        numbers = [[marks.index(goal) for goal in goals] for goals, _ in told]
        self.assertEqual(numbers, sorted(numbers))
        for goals, row in told:
            self.assertIsInstance(goals, tuple)
            self.assertIsInstance(row, tuple)
            self.assertEqual(out_of(table, row, behind), goals)

    def test_all_rows_of_few_places(self):
        for table in some_tables():
            for behind in (False, True):
                told = all_row_maps(table, behind=behind)
                self.check(table, behind, told)
                self.assertEqual([(goals, len(row)) for goals, row in told],
                                 sorted(maps_by_length(table, behind).items(),
                                        key=lambda item: [table.marks().index(goal) for goal in item[0]]))

    def test_by_hand(self):
        self.assertEqual(all_row_maps(exchange(1)), [(("a",), ("a",))])
        self.assertEqual([goals for goals, _ in all_row_maps(exchange(3))], [("a", "b", "c")])
        self.assertEqual([(goals, len(row)) for goals, row in all_row_maps(ringed(3, 1, 2))],
                         [(("a", "b", "c"), 3), (("b", "c", "a"), 2), (("c", "a", "b"), 1)])
        self.assertEqual([(goals, len(row)) for goals, row in all_row_maps(ringed(3, 1, 2), behind=True)],
                         [(("a", "b", "c"), 3), (("b", "c", "a"), 1), (("c", "a", "b"), 2)])
        self.assertEqual(all_row_maps(crossing())[0], (("c", "a", "b"), ("a",)))

    def test_what_changes_no_mark_is_told_only_where_a_row_makes_it(self):
        self.assertEqual(all_row_maps(second_given()), [(("a", "a"), ("a",)), (("b", "b"), ("b",))])
        self.assertEqual(all_row_maps(second_given(), behind=True)[0][0], ("a", "b"))
        self.assertEqual(len(all_row_maps(second_given(), behind=True)), 1)

    def test_just_most_and_one_more(self):
        told = all_row_maps(mapped(STAY, TWO_THOUSAND))
        self.assertEqual(len(told), 2000)
        self.check(mapped(STAY, TWO_THOUSAND), False, told)
        told = all_row_maps(mapped(TWO_THOUSAND, STAY), behind=True)
        self.assertEqual(len(told), 2000)
        self.check(mapped(TWO_THOUSAND, STAY), True, told)
        self.refused(TooMany(2000), all_row_maps, mapped(STAY, ONE_MORE))
        self.refused(TooMany(2000), all_row_maps, mapped(STAY, ONE_MORE), behind=False)
        self.refused(TooMany(2000), all_row_maps, mapped(ONE_MORE, STAY), behind=True)
        self.assertEqual(len(all_row_maps(mapped(TWO_THOUSAND, ONE_MORE), behind=True)), 2000)
        self.assertEqual(len(all_row_maps(mapped(ONE_MORE, TWO_THOUSAND))), 2000)
        self.assertEqual(len(all_row_maps(mapped(ONE_MORE, STAY))), 1)

    def test_many_more(self):
        # Turning all six about, exchanging two, and making two one make all 46,656 maps of six marks.
        all_ways = ((1, 2, 3, 4, 5, 0), (1, 0, 2, 3, 4, 5), (0, 0, 2, 3, 4, 5)) * 2
        self.refused(TooMany(2000), all_row_maps, mapped(STAY, all_ways))
        self.refused(TooMany(2000), all_row_maps, mapped(all_ways, STAY), behind=True)

    def test_by_names_and_told_things_changed_afterwards(self):
        told = all_row_maps(behind=True, table=crossing())
        self.assertEqual(told, all_row_maps(crossing(), behind=True))
        told.clear()
        self.assertEqual(len(all_row_maps(crossing(), behind=True)), 2)
        self.assertRaises(TypeError, all_row_maps, crossing(), True)


if __name__ == "__main__":
    unittest.main()

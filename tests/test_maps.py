import unittest
from itertools import product

from passmarks.errors import TooMany
from passmarks.maps import all_maps, parts, renamings
from passmarks.passes import row_behind
from tests.things import (Refusing, crossing, exchange, gentle_threes, mirrored, parted, parted_below,
                          remarked, ringed, second_given, standing, standing_but, summed, swap_unlike_first, table_of,
                          two_mark_tables)

# By going through all dicts, there are just 2000 maps from the first to the second of these, and 2002.
TWO_THOUSAND = (
    standing_but(6, {"cd": "dd", "dc": "cc"}),
    standing_but(6, {"ac": "cc", "bc": "aa", "ca": "aa", "cb": "bc", "cd": "aa", "cf": "aa", "dc": "fd", "df": "ff",
                     "fc": "ff", "fd": "dd"}))
TWO_MORE = (
    standing_but(6, {"ad": "aa", "da": "dd"}),
    standing_but(6, {"ae": "aa", "bd": "bb", "ce": "cc", "db": "dd", "de": "dd", "ea": "ee", "ec": "ee", "fe": "aa"}))


def some_tables():
    return two_mark_tables()[::9] + [
        exchange(1), exchange(2), exchange(3), standing(2), standing(3), crossing(), mirrored(), parted(),
        parted_below(), summed(3), ringed(3, 1, 2), ringed(4, 1, 1), second_given(), swap_unlike_first(),
        remarked(crossing(), ["b", "c", "a"]), remarked(summed(3), ["c", "a", "b"]),
        table_of(["z", "m"], lambda x, y: (y, "m"))]


def is_map(one, other, given):
    return all(row_behind(other, (given[x], given[y]), (0,))
               == tuple(given[mark] for mark in row_behind(one, (x, y), (0,)))
               for x, y in product(one.marks(), repeat=2))


def maps_by_hand(one, other):
    """All maps, by going through all dicts, which rise by the other's order."""
    dicts = [dict(zip(one.marks(), goals)) for goals in product(other.marks(), repeat=len(one.marks()))]
    return [given for given in dicts if is_map(one, other, given)]


def renamings_by_hand(one, other):
    return [given for given in maps_by_hand(one, other) if sorted(given.values()) == sorted(other.marks())]


class AllMaps(Refusing):
    def test_going_through_all_dicts(self):
        lengths = set()
        tables = some_tables()
        for one in tables:
            for other in tables:
                told = all_maps(one, other)
                self.assertEqual(told, maps_by_hand(one, other))
                self.assertIsInstance(told, list)
                for given in told:
                    self.assertIs(given.__class__, dict)
                    self.assertEqual(list(given), one.marks())
                lengths.add(len(told))
        self.assertGreater(len(lengths), 8)

    def test_by_hand(self):
        self.assertEqual(all_maps(exchange(1), exchange(2)), [{"a": "a"}, {"a": "b"}])
        self.assertEqual(all_maps(exchange(2), exchange(1)), [{"a": "a", "b": "a"}])
        # No mark passes itself unchanged, so nothing can be given.
        self.assertEqual(all_maps(exchange(1), ringed(2, 1, 1)), [])
        self.assertEqual(all_maps(ringed(2, 1, 1), ringed(2, 1, 1)), [{"a": "a", "b": "b"}, {"a": "b", "b": "a"}])

    def test_the_others_order(self):
        other = remarked(standing(2), ["b", "a"])
        self.assertEqual([tuple(given.values()) for given in all_maps(standing(2), other)],
                         [("b", "b"), ("b", "a"), ("a", "b"), ("a", "a")])

    def test_one_mark_and_six(self):
        self.assertEqual(len(all_maps(exchange(1), exchange(6))), 6)
        self.assertEqual(len(all_maps(exchange(6), exchange(1))), 1)
        self.assertEqual(len(all_maps(ringed(6, 1, 2), ringed(6, 1, 2))), 6)
        self.assertEqual(all_maps(ringed(6, 1, 2), ringed(5, 1, 2)), [])
        self.assertEqual(len(all_maps(exchange(6), exchange(3))), 729)

    def test_just_most_and_more(self):
        told = all_maps(*TWO_THOUSAND)
        self.assertEqual(len(told), 2000)
        self.assertEqual(told, maps_by_hand(*TWO_THOUSAND))
        self.assertEqual(len(maps_by_hand(*TWO_MORE)), 2002)
        self.refused(TooMany(2000), all_maps, *TWO_MORE)
        self.refused(TooMany(2000), all_maps, standing(6), standing(6))
        self.refused(TooMany(2000), all_maps, exchange(6), exchange(4))

    def test_by_names_and_told_things_changed_afterwards(self):
        told = all_maps(other=exchange(2), one=exchange(1))
        told[0]["a"] = "q"
        told.clear()
        self.assertEqual(all_maps(exchange(1), exchange(2)), [{"a": "a"}, {"a": "b"}])


class Renamings(unittest.TestCase):
    def test_going_through_all_dicts(self):
        some = 0
        tables = some_tables()
        for one in tables:
            for other in tables:
                told = renamings(one, other)
                self.assertEqual(told, renamings_by_hand(one, other))
                some += len(told) > 1
        self.assertGreater(some, 5)

    def test_of_other_many_marks_there_are_none(self):
        self.assertEqual(renamings(exchange(2), exchange(3)), [])
        self.assertEqual(renamings(exchange(3), exchange(2)), [])
        self.assertEqual(renamings(exchange(6), exchange(1)), [])

    def test_one_mark_and_six(self):
        self.assertEqual(renamings(exchange(1), standing(1)), [{"a": "a"}])
        self.assertEqual(len(renamings(standing(6), standing(6))), 720)
        self.assertEqual(renamings(exchange(6), standing(6)), [])
        told = renamings(ringed(6, 1, 2), remarked(ringed(6, 1, 2), ["f", "b", "a", "c", "e", "d"]))
        self.assertEqual([tuple(given.values()) for given in told],
                         [tuple("fabcde"), tuple("bcdefa"), tuple("abcdef"), tuple("cdefab"), tuple("efabcd"),
                          tuple("defabc")])

    def test_by_names_and_told_things_changed_afterwards(self):
        told = renamings(other=mirrored(), one=mirrored())
        self.assertEqual(told, renamings_by_hand(mirrored(), mirrored()))
        many = len(told)
        told[0].clear()
        told.clear()
        self.assertEqual(len(renamings(mirrored(), mirrored())), many)
        self.assertTrue(all(given for given in renamings(mirrored(), mirrored())))


def parts_by_hand(table):
    marks = table.marks()
    found = []
    for chosen in product((True, False), repeat=len(marks)):
        part = tuple(mark for mark, there in zip(marks, chosen) if there)
        if all(set(table.passed(x, y)) <= set(part) for x in part for y in part):
            found.append(part)
    return sorted(found, key=lambda part: (len(part), [marks.index(mark) for mark in part]))


class Parts(unittest.TestCase):
    def test_going_through_all_sets(self):
        told = []
        for table in two_mark_tables() + some_tables() + gentle_threes()[::7] + [standing(6), summed(6), summed(4)]:
            self.assertEqual(parts(table), parts_by_hand(table))
            told.append(len(parts(table)))
        self.assertGreater(len(set(told)), 5)

    def test_by_hand(self):
        self.assertEqual(parts(exchange(1)), [(), ("a",)])
        # A mark that doesn't stay with itself alone is no part; none and all always are.
        self.assertEqual(parts(ringed(6, 1, 0)), [(), tuple("abcdef")])
        self.assertEqual(parts(crossing()), [(), ("c",), ("a",), ("b",), ("a", "b"), ("c", "a", "b")])
        self.assertEqual(parts(mirrored()), [(), ("a",), ("b",), ("c",), ("a", "b", "c")])
        self.assertEqual(len(parts(standing(6))), 64)

    def test_by_names_and_told_lists_changed_afterwards(self):
        told = parts(table=exchange(1))
        told.clear()
        self.assertEqual(parts(exchange(1)), [(), ("a",)])
        self.assertTrue(all(isinstance(part, tuple) for part in parts(standing(3))))


if __name__ == "__main__":
    unittest.main()

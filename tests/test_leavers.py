import unittest
from itertools import permutations, product

from passmarks.errors import NoRow, NotSided, NotThree, NotTwice
from passmarks.faults import sided_fault, three_fault, twice_fault
from passmarks.leavers import leaving, makers, shows_makers
from passmarks.orders import order_of
from passmarks.passes import row_behind
from passmarks.plainrows import plain
from passmarks.words import told_form
from tests.things import (Refusing, anything, crossing, exchange, gentle_threes, mirrored, ringed, second_given,
                          standing, summed, swap_unlike_first, two_mark_tables, ungentle)

CALLS = (leaving, makers, lambda table, row: shows_makers(table, row, None))


def exchanged(places, word):
    """The runners that a word moves."""
    return [runner for place, runner in enumerate(order_of(places, word)) if place != runner]


def linked(places, words):
    """All pairs of runners, and each with itself, that are linked, by way of others, too."""
    pairs = {(runner, runner) for runner in range(places)}
    for word in words:
        ends = exchanged(places, word)
        pairs |= {(one, other) for one in range(places) for other in range(places)
                  if {(one, end) for end in ends} & pairs and {(other, end) for end in ends} & pairs}
    return pairs


def like(table, row):
    marks = plain(table, row)
    return {(one, other) for one in range(len(row)) for other in range(len(row)) if marks[one] == marks[other]}


class Told(unittest.TestCase):
    def check(self, table, row):
        words = makers(table, row)
        self.assertIsInstance(words, list)
        for word in words:
            self.assertIsInstance(word, tuple)
            self.assertEqual(len(exchanged(len(row), word)), 2)
            self.assertEqual(row_behind(table, row, word), row)
        self.assertEqual(linked(len(row), words), like(table, row))
        self.assertIs(shows_makers(table, row, words), True)

    def test_all_rows_of_few_places(self):
        for table in gentle_threes()[::3] + [crossing(), exchange(2), ringed(2, 1, 1), exchange(1)]:
            for places in range(1, 5):
                words = [told_form(order) for order in permutations(range(places))]
                for row in product(table.marks(), repeat=places):
                    self.check(table, row)
                    self.assertEqual(leaving(table, row), sum(row_behind(table, row, word) == row for word in words))

    def test_by_hand(self):
        self.assertEqual(leaving(exchange(3), ("a", "b", "a", "a", "b")), 12)
        self.assertEqual(leaving(exchange(3), ("a", "b", "c")), 1)
        self.assertEqual(makers(exchange(3), ("a", "b", "c")), [])
        self.assertEqual(leaving(ringed(3, 1, 2), ("b", "a")), 2)
        self.assertEqual(leaving(ringed(3, 1, 2), ("a", "a")), 1)

    def test_one_place_and_sixty(self):
        self.assertEqual([leaving(exchange(6), ("f",)), makers(exchange(6), ("f",))], [1, []])
        many = 1
        for left in range(1, 61):
            many *= left
        self.assertEqual(leaving(exchange(1), ("a",) * 60), many)
        self.check(exchange(1), ("a",) * 60)
        self.check(exchange(6), tuple("abcdef" * 10))
        self.assertEqual(leaving(exchange(6), tuple("abcdef" * 10)), 3628800 ** 6)
        self.check(exchange(2), ("a",) + ("b",) * 58 + ("a",))
        self.check(crossing(), tuple("abcacb" * 10))
        self.check(ringed(6, 1, 5), ("a",) * 60)

    def test_lists_and_names(self):
        row = ["a", "b", "a"]
        self.assertEqual(leaving(row=row, table=exchange(2)), 2)
        told = makers(row=row, table=exchange(2))
        self.assertIs(shows_makers(thing=told, row=row, table=exchange(2)), True)
        self.assertEqual(row, ["a", "b", "a"])
        told.append(())
        self.assertIs(shows_makers(exchange(2), row, makers(exchange(2), row)), True)


class Looks(unittest.TestCase):
    def test_any_makers(self):
        row = ("a", "a", "b", "a")
        self.assertIs(shows_makers(exchange(2), row, [(0,), (2, 1, 2)]), True)
        self.assertIs(shows_makers(exchange(2), row, [(1, 2, 1), (0, 0, 0)]), True)
        self.assertIs(shows_makers(exchange(2), row, [(1, 2, 1), (0,), (0,), (0, 1, 2, 1, 0)]), True)
        self.assertIs(shows_makers(exchange(2), row, [(0, 1, 2, 1, 0), (2, 1, 2)]), True)

    def test_too_few(self):
        row = ("a", "a", "b", "a")
        self.assertIs(shows_makers(exchange(2), row, [(0,)]), False)
        self.assertIs(shows_makers(exchange(2), row, []), False)
        self.assertIs(shows_makers(exchange(2), row, [(0,), (0,)]), False)
        self.assertIs(shows_makers(exchange(2), ("a", "b"), []), True)
        self.assertIs(shows_makers(exchange(2), ("b", "b", "a", "a"), [(0,)]), False)
        self.assertIs(shows_makers(exchange(2), ("b", "b", "a", "a"), [(2,), (0,)]), True)

    def test_words_that_do_not_leave_or_do_not_exchange_two(self):
        row = ("a", "a", "b", "a")
        good = [(0,), (2, 1, 2)]
        for wrong in ((1,), (2,), (1, 2), (), (0, 0), (0, 1, 0), (0, 1, 2, 1), (0, 2)):
            for at in range(3):
                self.assertIs(shows_makers(exchange(2), row, good[:at] + [wrong] + good[at:]), False, wrong)
        # Three runners of like marks go round, and two times two are exchanged: both leave the row.
        self.assertIs(shows_makers(exchange(1), ("a",) * 3, [(0, 1)]), False)
        self.assertIs(shows_makers(exchange(1), ("a",) * 3, [(0,), (1,), (0, 1)]), False)
        self.assertIs(shows_makers(exchange(1), ("a",) * 4, [(0,), (1,), (2,), (0, 2)]), False)

    def test_spoilt_at_one_place(self):
        for table, row in ((exchange(2), ("a", "b", "a", "b", "a")), (crossing(), ("a", "c", "b", "a", "c"))):
            told = makers(table, row)
            for at, word in enumerate(told):
                ahead, behind = told[:at], told[at + 1:]
                self.assertIs(shows_makers(table, row, ahead + behind), False)
                for wrong in (list(word), word + word, word[1:], word + (4,), word + (-1,), None, (word,), "0", 0):
                    self.assertIs(shows_makers(table, row, ahead + [wrong] + behind), False)
                for number, place in enumerate(word):
                    for other in (str(place), None, place + 4, -1, (place,)):
                        spoilt = word[:number] + (other,) + word[number + 1:]
                        self.assertIs(shows_makers(table, row, ahead + [spoilt] + behind), False)
                    if place in (0, 1):
                        spoilt = word[:number] + (bool(place),) + word[number + 1:]
                        self.assertIs(shows_makers(table, row, ahead + [spoilt] + behind), False)
            self.assertIs(shows_makers(table, row, tuple(told)), False)
            self.assertIs(shows_makers(table, row, told[::-1]), True)

    def test_how_long_words_are(self):
        self.assertIs(shows_makers(exchange(1), ("a", "a"), [(0,) * 1999]), True)
        self.assertIs(shows_makers(exchange(1), ("a", "a"), [(0,) * 2000]), False)
        self.assertIs(shows_makers(exchange(1), ("a", "a"), [(0,) * 2001]), False)

    def test_anything(self):
        for thing in anything():
            self.assertIs(shows_makers(exchange(2), ("a", "a"), thing), thing == [(0,)])
            self.assertIs(shows_makers(exchange(2), ("a", "b"), thing), isinstance(thing, list) and not thing)
            self.assertIs(shows_makers(exchange(2), ["a", "a"], [thing]), repr(thing) == "(0,)")
            self.assertIs(shows_makers(exchange(2), ["a", "a"], [(0,), thing]), repr(thing) == "(0,)")
            self.assertIs(shows_makers(exchange(2), ["a", "a"], [(thing,)]), repr(thing) == "0")

    def test_a_looked_at_thing_stays(self):
        thing = [[0], (0,)]
        shows_makers(exchange(2), ("a", "a"), thing)
        self.assertEqual(thing, [[0], (0,)])


class Refused(Refusing):
    def test_tables(self):
        for call in CALLS:
            for table in (summed(2), swap_unlike_first()):
                self.refused(NotThree(three_fault(table)), call, table, ())
            for table in (second_given(), standing(2)):
                self.refused(NotSided(sided_fault(table)), call, table, ())
            for table in (mirrored(), ringed(3, 1, 1)):
                self.refused(NotTwice(twice_fault(table)), call, table, ())

    def test_all_tables_of_two_marks(self):
        for table in two_mark_tables():
            due = ungentle(table)
            for call in CALLS:
                self.refused(due or NoRow(1), call, table, ("a", "q", "q"))

    def test_rows_of_anything(self):
        for call in CALLS:
            self.refused(NoRow(-1), call, crossing(), ("a",) * 61)
            for thing in anything():
                if not isinstance(thing, (list, tuple)):
                    self.refused(NoRow(-1), call, crossing(), thing)
                if repr(thing) not in ("'a'", "'b'"):
                    self.refused(NoRow(2), call, crossing(), ["a", "b", thing, "q"])


if __name__ == "__main__":
    unittest.main()

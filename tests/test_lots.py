import unittest
from itertools import product

from passmarks.errors import NoRow, NotSided, NotThree, NotTwice
from passmarks.faults import sided_fault, three_fault, twice_fault
from passmarks.lots import fewest, same_lot, shows_fewest
from passmarks.passes import row_behind
from passmarks.plainrows import plain, row_of_plain
from passmarks.words import who_pass
from tests.things import (Refusing, anything, crossing, exchange, far_by_going, gentle_threes, mirrored, ringed,
                          second_given, standing, summed, swap_unlike_first, two_mark_tables, ungentle)

CALLS = (same_lot, fewest, lambda table, one, other: shows_fewest(table, one, other, None))


def some_gentle():
    return [table for at, table in enumerate(gentle_threes()) if at % 3 == 0] + [
        crossing(), exchange(2), ringed(4, 1, 3), ringed(2, 1, 1)]


class Told(unittest.TestCase):
    def check(self, table, one, other, many):
        told = fewest(table, one, other)
        self.assertIsInstance(told, tuple)
        word, pairs = told
        self.assertIsInstance(word, tuple)
        self.assertIsInstance(pairs, list)
        self.assertEqual(row_behind(table, one, word), other)
        self.assertEqual((len(word), len(pairs)), (many, many))
        self.assertEqual(pairs, sorted(who_pass(len(one), word)))
        self.assertTrue(all(isinstance(pair, tuple) and pair[0] < pair[1] for pair in pairs))
        self.assertIs(shows_fewest(table, one, other, told), True)

    def test_all_rows_of_few_places(self):
        for table in some_gentle():
            for places in (1, 2, 3, 4):
                rows = list(product(table.marks(), repeat=places))
                for one in rows if len(rows) < 64 else rows[::11]:
                    far = far_by_going(table, one)
                    for other in rows:
                        self.assertIs(same_lot(table, one, other), other in far)
                        if other in far:
                            self.check(table, one, other, far[other])
                        else:
                            self.assertIsNone(fewest(table, one, other))

    def test_by_hand(self):
        self.assertEqual(fewest(exchange(2), ("a", "b", "a", "b"), ("b", "b", "a", "a"))[1],
                         [(0, 1), (0, 3), (2, 3)])
        self.assertEqual(fewest(exchange(3), ("a", "b", "c"), ("a", "b", "c")), ((), []))
        self.assertIs(same_lot(ringed(3, 1, 2), ("a", "b"), ("b", "b")), False)
        self.assertIs(same_lot(ringed(3, 1, 2), ("a", "a"), ("b", "c")), True)
        self.assertEqual(fewest(ringed(3, 1, 2), ("a", "a"), ("b", "c")), ((0,), [(0, 1)]))

    def test_rows_of_unlike_lengths(self):
        for table in (exchange(1), crossing()):
            for one, other in ((("a",), ("a", "a")), (("a", "a"), ("a",)), (("a",) * 60, ("a",) * 59)):
                self.assertIs(same_lot(table, one, other), False)
                self.assertIsNone(fewest(table, one, other))
                self.assertIs(shows_fewest(table, one, other, None), False)
                self.assertIs(shows_fewest(table, one, other, ((), [])), False)

    def test_one_place_and_one_mark(self):
        self.assertIs(same_lot(exchange(6), ("a",), ("a",)), True)
        self.assertIs(same_lot(exchange(6), ("a",), ("f",)), False)
        self.assertEqual(fewest(exchange(6), ("f",), ("f",)), ((), []))
        self.assertIsNone(fewest(exchange(6), ("f",), ("e",)))
        self.assertEqual(fewest(exchange(1), ("a",) * 60, ("a",) * 60), ((), []))

    def test_sixty_places(self):
        self.check(exchange(2), ("a",) * 30 + ("b",) * 30, ("b",) * 30 + ("a",) * 30, 900)
        self.check(exchange(6), tuple("abcdef" * 10), tuple("fedcba" * 10), 15 * 10)
        for table in (crossing(), ringed(6, 1, 5)):
            one = tuple("abcacb" * 10)
            last = row_of_plain(table, sorted(plain(table, one)))
            first = row_of_plain(table, sorted(plain(table, one), reverse=True))
            marks = plain(table, one)
            crossed = sum(x > y for at, x in enumerate(marks) for y in marks[at + 1:])
            self.check(table, one, last, crossed)
            self.check(table, one, first, sum(x < y for at, x in enumerate(marks) for y in marks[at + 1:]))

    def test_lists_and_names(self):
        one, other = ["a", "b"], ["b", "a"]
        self.assertIs(same_lot(other=other, one=one, table=exchange(2)), True)
        told = fewest(other=other, one=one, table=exchange(2))
        self.assertEqual(told, ((0,), [(0, 1)]))
        self.assertIs(shows_fewest(thing=told, other=other, one=one, table=exchange(2)), True)
        told[1].append((0, 1))
        self.assertEqual(fewest(exchange(2), one, other), ((0,), [(0, 1)]))
        self.assertEqual((one, other), (["a", "b"], ["b", "a"]))


class Looks(unittest.TestCase):
    def test_any_word_of_fewest_passes(self):
        one, other, pairs = ("a", "b", "c"), ("c", "b", "a"), [(0, 1), (0, 2), (1, 2)]
        self.assertIs(shows_fewest(exchange(3), one, other, ((0, 1, 0), pairs)), True)
        self.assertIs(shows_fewest(exchange(3), one, other, ((1, 0, 1), pairs)), True)
        self.assertIs(shows_fewest(exchange(3), one, other, ((1, 0, 1, 0, 0), pairs)), False)
        self.assertIs(shows_fewest(exchange(3), one, other, ((1, 0, 0), pairs)), False)
        # The word isn't asked who pass in it, but to make the row, and to be as long.
        self.assertIs(shows_fewest(exchange(2), ("a", "b", "b"), ("b", "b", "a"), ((0, 1), [(0, 1), (0, 2)])), True)
        self.assertIs(shows_fewest(exchange(2), ("b", "b", "a"), ("b", "b", "a"), ((0, 0), [])), False)
        self.assertIs(shows_fewest(exchange(2), ("b", "b", "a"), ("b", "b", "a"), ((0,), [])), False)

    def test_spoilt_at_one_place(self):
        for table in (exchange(3), crossing()):
            one = ("a", "c", "b", "c", "a")
            for other in far_by_going(table, one):
                word, pairs = told = fewest(table, one, other)
                self.assertIs(shows_fewest(table, one, other, told), True)
                self.spoil(table, one, other, word, pairs)

    def spoil(self, table, one, other, word, pairs):
        def no(thing):
            self.assertIs(shows_fewest(table, one, other, thing), False, thing)

        for at, (first, second) in enumerate(pairs):
            ahead, behind = pairs[:at], pairs[at + 1:]
            for wrong in ((second, first), [first, second], (first,), (first, second, second), (first, second + 1),
                          (first - 1, second), None, first, "ab", (str(first), second), (first, None)):
                if (first, second) != wrong:
                    no((word, ahead + [wrong] + behind))
            no((word, ahead + behind))
            no((word, ahead + [(first, second)] * 2 + behind))
            if first in (0, 1):
                no((word, ahead + [(bool(first), second)] + behind))
        for at, place in enumerate(word):
            for wrong in (place + 1, place - 1, str(place), None, (place,), 9, -1):
                spoilt = word[:at] + (wrong,) + word[at + 1:]
                if wrong not in range(len(one) - 1) or row_behind(table, one, spoilt) != other:
                    no((spoilt, pairs))
            no((word[:at] + word[at + 1:], pairs))
            if place in (0, 1):
                no((word[:at] + (bool(place),) + word[at + 1:], pairs))
        no((word + (0, 0), pairs))
        no((list(word), pairs))
        no((word, tuple(pairs)))
        no([word, pairs])
        no((word, pairs, None))
        no((word,))
        if len(pairs) > 1:
            no((word, pairs[::-1]))

    def test_rows_of_unlike_lots(self):
        for thing in anything() + [((), []), ((0,), [(0, 1)])]:
            self.assertIs(shows_fewest(exchange(3), ("a", "b"), ("a", "c"), thing), False)
            self.assertIs(shows_fewest(crossing(), ("a", "b"), ("a",), thing), False)

    def test_anything(self):
        one, other = ("a", "b", "b"), ("b", "b", "a")
        word, pairs = fewest(exchange(2), one, other)
        for thing in anything():
            self.assertIs(shows_fewest(exchange(2), one, other, thing), False)
            self.assertIs(shows_fewest(exchange(2), one, other, (word, thing)), False)
            self.assertIs(shows_fewest(exchange(2), one, other, (thing, pairs)), False)
            self.assertIs(shows_fewest(exchange(2), one, other, (word, [thing, (0, 2)])), False)
            self.assertIs(shows_fewest(exchange(2), one, other, (word, [(0, 1), (0, thing)])), repr(thing) == "2")
            self.assertIs(shows_fewest(exchange(2), one, other, ((0, thing), pairs)), repr(thing) == "1")

    def test_a_looked_at_thing_stays(self):
        thing = ([0, 1], [[0, 1], (0, 2)])
        shows_fewest(exchange(2), ("a", "b", "b"), ("b", "b", "a"), thing)
        self.assertEqual(thing, ([0, 1], [[0, 1], (0, 2)]))


class Refused(Refusing):
    def test_tables(self):
        for call in CALLS:
            for table in (summed(2), summed(6), swap_unlike_first()):
                self.refused(NotThree(three_fault(table)), call, table, None, ())
            for table in (second_given(), standing(2), standing(6)):
                self.refused(NotSided(sided_fault(table)), call, table, None, ())
            for table in (mirrored(), ringed(3, 1, 1), ringed(6, 1, 1)):
                self.refused(NotTwice(twice_fault(table)), call, table, None, ())
        self.refused(NotTwice(("a", "a")), same_lot, ringed(6, 1, 1), ("a",), ("a",))

    def test_all_tables_of_two_marks(self):
        for table in two_mark_tables():
            due = ungentle(table)
            for call in CALLS:
                self.refused(due or NoRow(2), call, table, ("a", "b", "q"), 7)

    def test_rows_of_anything(self):
        for call in CALLS:
            for thing in anything():
                if not isinstance(thing, (list, tuple)):
                    self.refused(NoRow(-1), call, exchange(2), thing, ("a", "q"))
                    self.refused(NoRow(-1), call, crossing(), ["a", "b"], thing)
                if repr(thing) not in ("'a'", "'b'"):
                    self.refused(NoRow(1), call, exchange(2), ["a", thing], ())
                    self.refused(NoRow(0), call, crossing(), ("a", "b"), [thing])

    def test_the_one_then_the_other(self):
        for call in CALLS:
            self.refused(NoRow(1), call, exchange(2), ("a", "q"), ())
            self.refused(NoRow(-1), call, exchange(2), ("a", "a"), ())
            self.refused(NoRow(-1), call, exchange(2), ("a",) * 60, ("a",) * 61)
            self.refused(NoRow(-1), call, exchange(2), ("a",) * 61, ("q",))


if __name__ == "__main__":
    unittest.main()

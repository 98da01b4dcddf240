import unittest
from itertools import permutations, product

from passmarks.apart import any_parting, short_parting, shows_parting, shows_short_parting
from passmarks.errors import NoNumber
from passmarks.faults import three_fault, twice_fault
from passmarks.orders import order_of
from passmarks.passes import row_behind
from passmarks.words import is_short
from tests.things import (anything, exchange, ringed, second_given, standing, swap_unlike_first, table_of,
                          two_mark_tables)


def neither():
    """Neither TWICE nor THREE."""
    return table_of(["a", "b"], lambda x, y: ("b" if x == y else x, "a"))


def some_way_parts(table, places):
    """Whether any words of one order part any row, by going through all that words make."""
    for row in product(table.marks(), repeat=places):
        start = (tuple(range(places)), row)
        seen, left = {start}, [start]
        while left:
            order, now = left.pop()
            for place in range(places - 1):
                word = (place,)
                moved = list(order)
                moved[place], moved[place + 1] = moved[place + 1], moved[place]
                further = (tuple(moved), row_behind(table, now, word))
                if further not in seen:
                    seen.add(further)
                    left.append(further)
        if len({order for order, _ in seen}) < len(seen):
            return True
    return False


def some_short_way_parts(table, places):
    words = {order: [] for order in permutations(range(places))}
    for length in range(places * (places - 1) // 2 + 1):
        for word in product(range(places - 1), repeat=length):
            if is_short(places, word):
                words[order_of(places, word)].append(word)
    return any(len({row_behind(table, row, word) for word in alike}) > 1
               for alike in words.values() for row in product(table.marks(), repeat=places))


class Told(unittest.TestCase):
    def check(self, table, places, thing, short):
        self.assertIsInstance(thing, tuple)
        row, one, other = thing
        self.assertEqual(len(row), places)
        for part in thing:
            self.assertIsInstance(part, tuple)
        self.assertEqual(order_of(places, one), order_of(places, other))
        self.assertNotEqual(row_behind(table, row, one), row_behind(table, row, other))
        if short:
            self.assertTrue(is_short(places, one) and is_short(places, other))
            self.assertIs(shows_short_parting(table, thing), True)
        self.assertIs(shows_parting(table, thing), True)

    def test_some_tables(self):
        for places in (3, 4, 17, 59, 60):
            for table in (exchange(1), exchange(6), standing(3)):
                self.assertIsNone(short_parting(table, places))
                self.assertIsNone(any_parting(table, places))
            for table in (ringed(3, 1, 1), second_given()):
                self.assertIsNone(short_parting(table, places))
                self.check(table, places, any_parting(table, places), False)
            for table in (swap_unlike_first(), neither()):
                self.check(table, places, short_parting(table, places), True)
                self.check(table, places, any_parting(table, places), False)

    def test_two_places(self):
        for table in (exchange(2), standing(2), swap_unlike_first()):
            self.assertIsNone(any_parting(table, 2))
        for table in (second_given(), ringed(3, 1, 1), neither()):
            self.check(table, 2, any_parting(table, 2), False)

    def test_all_tables_of_two_marks(self):
        for table in two_mark_tables():
            for places in (2, 3):
                found = any_parting(table, places)
                self.assertEqual(found is not None, some_way_parts(table, places))
                if found is not None:
                    self.check(table, places, found, False)
            found = short_parting(table, 3)
            self.assertEqual(found is not None, some_short_way_parts(table, 3))
            for places in (3, 4, 5):
                found = short_parting(table, places)
                self.assertEqual(found is None, three_fault(table) is None)
                if found is not None:
                    self.check(table, places, found, True)

    def test_four_places(self):
        for table in two_mark_tables()[::23]:
            self.assertEqual(short_parting(table, 4) is not None, some_short_way_parts(table, 4))
            self.assertEqual(any_parting(table, 4) is not None, some_way_parts(table, 4))

    def test_what_the_tables_are(self):
        self.assertIsNone(twice_fault(swap_unlike_first()))
        self.assertIsNotNone(three_fault(swap_unlike_first()))
        self.assertIsNone(three_fault(second_given()))
        self.assertIsNotNone(twice_fault(second_given()))
        self.assertIsNotNone(three_fault(neither()))
        self.assertIsNotNone(twice_fault(neither()))

    def test_by_names(self):
        table = neither()
        self.assertEqual(short_parting(table=table, places=3), short_parting(table, 3))
        self.assertEqual(any_parting(table=table, places=2), any_parting(table, 2))
        self.assertIs(shows_parting(table=table, thing=any_parting(table, 2)), True)
        self.assertIs(shows_short_parting(table=table, thing=short_parting(table, 3)), True)


class Refused(unittest.TestCase):
    def test_places_of_anything(self):
        for table in (exchange(2), second_given(), swap_unlike_first(), neither()):
            for thing in anything() + [3]:
                for call, least in ((short_parting, 3), (any_parting, 2)):
                    if thing.__class__ is int and least <= thing <= 60:
                        call(table, thing)
                        continue
                    with self.assertRaises(NoNumber) as caught:
                        call(table, thing)
                    self.assertEqual(caught.exception.number, thing)
                    self.assertIs(caught.exception.number.__class__, thing.__class__)


class Looks(unittest.TestCase):
    def test_any_such_tuple(self):
        table = swap_unlike_first()
        self.assertIs(shows_short_parting(table, (("b", "a", "a", "b"), (1, 2, 1), (2, 1, 2))), True)
        self.assertIs(shows_short_parting(table, (("a", "a", "b"), (1, 0, 1), (0, 1, 0))), True)
        self.assertIs(shows_parting(table, (("a", "a", "b"), (1, 0, 1, 0, 0), (0, 1, 0))), True)
        self.assertIs(shows_parting(second_given(), (("a", "b"), (0,), (0, 0, 0))), False)
        self.assertIs(shows_parting(ringed(3, 1, 1), (("a", "b"), (0,), (0, 0, 0))), True)
        self.assertIs(shows_parting(second_given(), (("b", "a", "b"), (1, 1), ())), True)

    def test_words_that_are_not_short(self):
        table = second_given()
        self.assertIs(shows_parting(table, (("a", "b", "a"), (), (0, 0))), True)
        self.assertIs(shows_short_parting(table, (("a", "b", "a"), (), (0, 0))), False)
        self.assertIs(shows_short_parting(table, (("a", "b", "a"), (0, 0), ())), False)

    def test_words_of_unlike_orders(self):
        table = exchange(2)
        self.assertIs(shows_parting(table, (("a", "b"), (), (0,))), False)
        self.assertIs(shows_short_parting(table, (("a", "b", "a"), (0, 1), (1, 0))), False)

    def test_words_that_make_like_rows(self):
        for table in (exchange(2), swap_unlike_first()):
            self.assertIs(shows_parting(table, (("a", "a", "a"), (0, 1, 0), (1, 0, 1))), False)
            self.assertIs(shows_short_parting(table, (("a", "a", "a"), (0, 1, 0), (1, 0, 1))), False)
            self.assertIs(shows_parting(table, (("a", "b"), (0,), (0,))), False)

    def test_long_words_and_rows(self):
        table = ringed(3, 1, 1)
        self.assertIs(shows_parting(table, (("a", "b"), (), (0,) * 1994)), True)
        self.assertIs(shows_parting(table, (("a", "b"), (), (0,) * 2000)), True)
        self.assertIs(shows_parting(table, (("a", "b"), (), (0,) * 2002)), False)
        self.assertIs(shows_parting(table, (("a",) * 60, (), (58, 58))), True)
        self.assertIs(shows_parting(table, (("a",) * 61, (), (58, 58))), False)
        self.assertIs(shows_parting(table, (("a",), (), ())), False)

    def test_lists_within_are_none(self):
        table = swap_unlike_first()
        row, one, other = ("a", "a", "b"), (0, 1, 0), (1, 0, 1)
        for look in (shows_parting, shows_short_parting):
            self.assertIs(look(table, (row, one, other)), True)
            for thing in ([row, one, other], (list(row), one, other), (row, list(one), other),
                          (row, one, list(other)), (row, one), (row, one, other, other), (row, one, other, None)):
                self.assertIs(look(table, thing), False, thing)

    def test_anything(self):
        table = swap_unlike_first()
        row, one, other = ("a", "a", "b"), (0, 1, 0), (1, 0, 1)
        for look in (shows_parting, shows_short_parting):
            for thing in anything():
                self.assertIs(look(table, thing), False)
                self.assertIs(look(table, (thing, one, other)), False)
                self.assertIs(look(table, (row, thing, other)), False)
                self.assertIs(look(table, (row, one, thing)), False)
                self.assertIs(look(table, (thing, thing, thing)), False)
                if thing != "b":
                    self.assertIs(look(table, (("a", "a", thing), one, other)), False)
                if repr(thing) != "0":
                    self.assertIs(look(table, (row, (0, 1, thing), other)), False)
                if repr(thing) != "1":
                    self.assertIs(look(table, (row, one, (1, 0, thing))), False)

    def test_nothing_handed_in_is_changed(self):
        thing = (["a", "a", "b"], [0, 1, 0], [1, 0, 1])
        shows_parting(swap_unlike_first(), thing)
        shows_short_parting(swap_unlike_first(), thing)
        self.assertEqual(thing, (["a", "a", "b"], [0, 1, 0], [1, 0, 1]))


if __name__ == "__main__":
    unittest.main()

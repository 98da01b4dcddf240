import random
import unittest
from itertools import product

from passmarks.errors import NoNumber, NoRow, NotOneOne, NoWord, TooLong
from passmarks.far import order_again, round_of, row_again
from passmarks.faults import one_fault
from passmarks.kin import beside, named
from passmarks.orders import order_of
from tests.things import (Refusing, anything, crossing, exchange, gentle_threes, mirrored, parted, remarked, ringed,
                          second_given, sided_threes, standing, summed, swap_unlike_first, two_mark_tables, ungentle)


def some_tables():
    return two_mark_tables()[::3] + sided_threes()[::9] + [
        exchange(1), exchange(3), standing(3), crossing(), mirrored(), parted(), summed(3), ringed(3, 1, 2),
        second_given(), swap_unlike_first(), remarked(crossing(), ["b", "c", "a"]), summed(4)]


def some_rows(table, places, rng):
    return [tuple(rng.choice(table.marks()) for _ in range(places)) for _ in range(3)]


def some_words(places, rng):
    long = tuple(rng.randrange(places - 1) for _ in range(9)) if places > 1 else ()
    return [(), long[:1], long[:3], long]


def passed(table, row, word):
    """The row behind a word, by single passes."""
    for place in word:
        row = row[:place] + table.passed(row[place], row[place + 1]) + row[place + 2:]
    return row


def taken_back(table, row, word):
    """The row of which the word makes the row, undone pass by pass."""
    before = {table.passed(x, y): (x, y) for x, y in product(table.marks(), repeat=2)}
    for place in reversed(word):
        row = row[:place] + before[row[place], row[place + 1]] + row[place + 2:]
    return row


def rings_word(lengths):
    """A word whose order has rings of these many places, one beside the other."""
    word, at = [], 0
    for many in lengths:
        word.extend(range(at, at + many - 1))
        at += many
    return tuple(word)


def marked(lengths):
    """A row with one b in each of these rings, all else a."""
    return tuple("".join("b" + "a" * (many - 1) for many in lengths))


def round_by_going(table, row, word):
    rows, now = [], row
    while now not in rows:
        rows.append(now)
        now = passed(table, now, word)
    return (rows.index(now), len(rows) - rows.index(now))


# Each pass moves one of five marks on by one. In a ring of 25 places a mark that has come round was moved by 24,
# so it takes 125 times until all is as before; in one of 16 by 15, so there it takes 16.
FIVES = ringed(5, 1, 0)
# a and b exchange; in a row of c and d a pass leaves the second one twice.
FALLING = beside(exchange(2), named(second_given(), {"a": "c", "b": "d"}))


class Rows(Refusing):
    def test_single_passes(self):
        rng = random.Random(1)
        for table in some_tables():
            for places in (1, 2, 3, 5):
                for row in some_rows(table, places, rng):
                    for word in some_words(places, rng):
                        now = row
                        for times in range(7):
                            self.assertEqual(row_again(table, row, word, times), now)
                            now = passed(table, now, word)

    def test_below_nought(self):
        rng = random.Random(2)
        tables = [table for table in some_tables() + two_mark_tables() if one_fault(table) is None]
        self.assertGreater(len(tables), 40)
        for table in tables:
            for places in (1, 2, 4):
                for row in some_rows(table, places, rng):
                    for word in some_words(places, rng):
                        now = row
                        for times in range(6):
                            self.assertEqual(row_again(table, row, word, -times), now)
                            self.assertEqual(row_again(table, now, word, times), row)
                            now = taken_back(table, now, word)

    def test_ever_so_many_times(self):
        rng = random.Random(3)
        for table in some_tables():
            undoable = one_fault(table) is None
            for row in some_rows(table, 4, rng):
                for word in some_words(4, rng):
                    first, many = round_by_going(table, row, word)
                    for times in (10 ** 60, 10 ** 60 - 1, 2001, 12345678901):
                        few = times if times < first else first + (times - first) % many
                        far = row_again(table, row, word, few)
                        self.assertEqual(row_again(table, row, word, times), far)
                        if undoable:
                            self.assertEqual(row_again(table, row, word, -times),
                                             row_again(table, row, word, -times % many))

    def test_by_hand(self):
        self.assertEqual(row_again(exchange(3), ("a", "b", "c"), (0, 1), 1), ("b", "c", "a"))
        self.assertEqual(row_again(exchange(3), ("a", "b", "c"), (0, 1), -1), ("c", "a", "b"))
        self.assertEqual(row_again(exchange(3), ("a", "b", "c"), (0, 1), 10 ** 60), ("b", "c", "a"))
        self.assertEqual(row_again(ringed(3, 1, 0), ("a", "b"), (0,), 2), ("b", "c"))
        self.assertEqual(row_again(second_given(), ("a", "b"), (0,), 10 ** 60), ("b", "b"))

    def test_not_one_one(self):
        table = second_given()
        fault = NotOneOne((("a", "a"), ("b", "a")))
        for times in (-1, -2000, -2001, -(10 ** 60)):
            self.refused(fault, row_again, table, ("a", "b"), (0,), times)
            self.refused(fault, row_again, table, ("a", "b"), (), times)
        self.assertEqual(row_again(table, ("a", "b"), (0,), 0), ("a", "b"))

    def test_the_order_of_refusals(self):
        table = second_given()
        self.refused(NoRow(1), row_again, table, ("a", "c"), (7,), -1)
        self.refused(NoWord(0), row_again, table, ("a", "b"), (7,), -1)
        row = ("d", "c") + marked((29, 23, 3))
        word = (0,) + tuple(place + 2 for place in rings_word((29, 23, 3)))
        self.refused(NotOneOne(one_fault(FALLING)), row_again, FALLING, row, word, -(10 ** 60))
        for thing in anything():
            if not isinstance(thing, (list, tuple)):
                self.refused(NoRow(-1), row_again, table, thing, thing, -1)
                self.refused(NoWord(-1), row_again, table, ("a", "b"), thing, 10 ** 60)
                self.refused(NoRow(-1), round_of, table, thing, thing)
                self.refused(NoWord(-1), round_of, table, ("a", "b"), thing)
            if repr(thing) not in ("'a'", "'b'"):
                self.refused(NoRow(1), row_again, table, ["a", thing], (0,), 5)
            if repr(thing) != "0":
                self.refused(NoWord(1), round_of, table, ["a", "b"], [0, thing])
        self.refused(NoWord(-1), row_again, table, ("a", "b"), (0,) * 2001, 1)
        self.refused(NoRow(-1), round_of, table, (), ())

    def test_words_of_no_pass_and_of_just_so_many(self):
        for table in (exchange(2), second_given(), ringed(2, 1, 0), standing(2)):
            self.assertEqual(row_again(table, ("a", "b"), (), 10 ** 60), ("a", "b"))
            self.assertEqual(round_of(table, ("a", "b"), ()), (0, 1))
            self.assertEqual(round_of(table, ("a",), []), (0, 1))
        self.assertEqual(row_again(exchange(2), ("a", "b"), (0,) * 2000, 10 ** 60), ("a", "b"))
        self.assertEqual(row_again(ringed(2, 1, 0), ("a", "b"), (0,) * 1999, 1), passed(ringed(2, 1, 0), ("a", "b"),
                                                                                       (0,) * 1999))
        self.assertEqual(round_of(exchange(2), ("a", "b"), (0,) * 1999), (0, 2))

    def test_lists_and_names(self):
        row, word = ["a", "b", "c"], [0, 1]
        told = row_again(times=4, word=word, row=row, table=exchange(3))
        self.assertEqual(told, ("b", "c", "a"))
        self.assertEqual(row_again(table=summed(3), row=row, word=word, times=3),
                         row_again(summed(3), tuple(row), tuple(word), 3))
        self.assertEqual(round_of(word=word, row=row, table=exchange(3)), (0, 3))
        self.assertEqual((row, word), (["a", "b", "c"], [0, 1]))


class TooLongs(Refusing):
    def test_just_most_where_no_row_falls(self):
        lengths = (25, 16)
        row, word = marked(lengths), rings_word(lengths)
        self.assertIsNotNone(ungentle(FIVES))
        self.assertEqual(round_of(FIVES, row, word), (0, 2000))
        self.assertEqual(row_again(FIVES, row, word, 10 ** 60), row)
        self.assertEqual(row_again(FIVES, row, word, 2001), row_again(FIVES, row, word, 1))
        self.assertEqual(row_again(FIVES, row, word, -2003), taken_back(FIVES, taken_back(FIVES, taken_back(
            FIVES, row, word), word), word))

    def test_one_more_where_no_row_falls(self):
        lengths = (29, 23, 3)
        table, row, word = ringed(2, 1, 0), marked(lengths), rings_word(lengths)
        self.assertIsNotNone(ungentle(table))
        self.refused(TooLong(2000), round_of, table, row, word)
        for times in (2001, -2001, 10 ** 60, -(10 ** 60)):
            self.refused(TooLong(2000), row_again, table, row, word, times)
        now = row
        for _ in range(2000):
            now = passed(table, now, word)
        self.assertEqual(row_again(table, row, word, 2000), now)
        self.assertEqual(row_again(table, now, word, -2000), row)
        self.assertEqual(row_again(table, row, word, -1), taken_back(table, row, word))

    def test_just_most_and_one_more_where_rows_fall(self):
        lengths = (3, 5, 7, 19)
        for first in (5, 6):
            falling = first + 1
            row = ("d",) * (falling - 1) + ("c",) + marked(lengths)
            word = tuple(range(falling - 1)) + tuple(falling + place for place in rings_word(lengths))
            if first == 5:
                self.assertEqual(round_of(FALLING, row, word), (5, 1995))
                self.assertEqual(row_again(FALLING, row, word, 10 ** 60),
                                 row_again(FALLING, row, word, 5 + (10 ** 60 - 5) % 1995))
                self.assertEqual(row_again(FALLING, row, word, 2001), row_again(FALLING, row, word, 6))
            else:
                self.refused(TooLong(2000), round_of, FALLING, row, word)
                self.refused(TooLong(2000), row_again, FALLING, row, word, 2001)
                now = row
                for _ in range(2000):
                    now = passed(FALLING, now, word)
                self.assertEqual(row_again(FALLING, row, word, 2000), now)

    def test_of_gentle_tables_never(self):
        lengths = (4, 3, 5, 7, 11, 13, 17)
        word = rings_word(lengths)
        for table in (exchange(6), exchange(2), ringed(3, 1, 2)):
            self.assertIsNone(ungentle(table))
            row = marked(lengths)
            self.assertEqual(len(row), 60)
            first, many = round_of(table, row, word)
            self.assertEqual(first, 0)
            self.assertEqual(row_again(table, row, word, many), row)
            for times in (10 ** 60, -(10 ** 60), 2001, -2001, 7 * 10 ** 59 + 3):
                now = row
                for _ in range(times % many % 50):
                    now = passed(table, now, word)
                self.assertEqual(row_again(table, row, word, times - times % many + times % many % 50), now)
        self.assertEqual(round_of(exchange(2), marked(lengths), word), (0, 1021020))
        self.assertEqual(round_of(exchange(2), ("a",) * 60, word), (0, 1))
        # The ring of four has b at every second place, and all others are alike.
        self.assertEqual(round_of(exchange(2), ("b", "a", "b", "a") + ("a",) * 56, word), (0, 2))


class Rounds(unittest.TestCase):
    def test_by_going(self):
        rng = random.Random(4)
        firsts, manies = set(), set()
        for table in some_tables() + gentle_threes()[::2]:
            for places in (1, 2, 3, 5, 6):
                for row in some_rows(table, places, rng):
                    for word in some_words(places, rng):
                        told = round_of(table, row, word)
                        self.assertIsInstance(told, tuple)
                        self.assertEqual(told, round_by_going(table, row, word))
                        firsts.add(told[0])
                        manies.add(told[1])
        self.assertGreater(len(firsts), 3)
        self.assertGreater(len(manies), 8)


class Orders(Refusing):
    def test_single_words(self):
        rng = random.Random(5)
        for places in (1, 2, 3, 5, 8):
            for word in some_words(places, rng):
                now = list(range(places))
                for times in range(9):
                    self.assertEqual(order_again(places, word, times), tuple(now))
                    self.assertEqual(order_again(places, tuple(reversed(word)), -times), tuple(now))
                    now = [now[runner] for runner in order_of(places, word)]

    def test_ever_so_many_times(self):
        lengths = (4, 3, 5, 7, 11, 13, 17)
        word = rings_word(lengths)
        stay = tuple(range(60))
        self.assertEqual(order_again(60, word, 1021020), stay)
        self.assertNotEqual(order_again(60, word, 1021020 // 2), stay)
        for times in (10 ** 60, -(10 ** 60), 10 ** 60 - 1, 2001, -2001):
            self.assertEqual(order_again(60, word, times), order_again(60, word, times % 1021020))
        self.assertEqual(order_again(60, word, -1), order_again(60, word, 1021019))
        self.assertEqual(order_again(3, (0, 1), 10 ** 60), (1, 2, 0))
        self.assertEqual(order_again(60, (), 10 ** 60), stay)
        self.assertEqual(order_again(1, (), -1), (0,))
        self.assertEqual(order_again(2, (0,) * 1999, 10 ** 60 - 1), (1, 0))

    def test_runners_and_rows_go_alike(self):
        rng = random.Random(6)
        for _ in range(30):
            word = tuple(rng.randrange(5) for _ in range(rng.randrange(12)))
            times = rng.randrange(-(10 ** 60), 10 ** 60)
            row = tuple("abcdef")
            self.assertEqual(row_again(exchange(6), row, word, times),
                             tuple(row[runner] for runner in order_again(6, word, times)))

    def test_refused(self):
        for thing in anything() + [61]:
            if repr(thing) not in ("1", "2", "59", "60"):
                self.refused(NoNumber(thing), order_again, thing, thing, 1)
            if not isinstance(thing, (list, tuple)):
                self.refused(NoWord(-1), order_again, 2, thing, 0)
            if repr(thing) not in ("0", "1"):
                self.refused(NoWord(1), order_again, 3, [0, thing], -1)
        self.refused(NoWord(0), order_again, 1, (0,), 0)
        self.refused(NoWord(-1), order_again, 2, (0,) * 2001, 0)

    def test_lists_and_names(self):
        word = [0, 1]
        self.assertEqual(order_again(times=2, word=word, places=3), (2, 0, 1))
        self.assertEqual(word, [0, 1])


if __name__ == "__main__":
    unittest.main()

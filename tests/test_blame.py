import random
import unittest
from itertools import combinations

from passmarks.blame import blame_of, shows_blame
from passmarks.treelooks import tree_of
from tests.asked import all_rows_of, rows_by_hand, some_asks, some_sights, tree_shown_by_hand
from tests.things import Refusing, anything, crossing, exchange, second_given, standing, summed


def some_blamed(seed, rounds):
    """What is asked where no row shows all sightings."""
    rng = random.Random(seed)
    found = []
    for table, holes, word, _ in some_asks(seed, rounds):
        for _ in range(6):
            seen = some_sights(table, holes, word, rng) + some_sights(table, holes, word, rng)
            seen = seen[:8]
            if not rows_by_hand(table, holes, word, seen):
                found.append((table, holes, word, seen))
    return found


def all_least(table, holes, word, seen):
    """All lists of numbers of sightings that no row shows all, though without any one of them some row does."""
    none = [numbers for many in range(1, len(seen) + 1) for numbers in combinations(range(len(seen)), many)
            if not rows_by_hand(table, holes, word, [seen[number] for number in numbers])]
    return [list(one) for one in none if not any(set(other) < set(one) for other in none)]


def papers_of(table, holes, word, seen, numbers):
    """A tree and rows for such numbers."""
    left = [seen[number] for number in numbers]
    rows = [rows_by_hand(table, holes, word, left[:at] + left[at + 1:])[-1] for at in range(len(left))]
    return (numbers, tree_of(table, holes, word, left), rows)


def shown_by_hand(table, holes, word, seen, thing):
    """A look at a tuple of a list of numbers, rising, a tree of tuples and a list of rows."""
    numbers, tree, rows = thing
    if numbers not in all_least(table, holes, word, seen) or len(rows) != len(numbers):
        return False
    left = [seen[number] for number in numbers]
    if not tree_shown_by_hand(table, holes, word, left, tree) or ("fits",) in tree:
        return False
    return all(row in rows_by_hand(table, holes, word, left[:at] + left[at + 1:]) for at, row in enumerate(rows))


class Told(Refusing):
    def test_many(self):
        lengths = set()
        for asked in some_blamed(1, rounds=3):
            told = blame_of(*asked)
            self.assertIsInstance(told, tuple)
            self.assertEqual([part.__class__ for part in told], [list, list, list])
            self.assertTrue(shown_by_hand(*asked, told))
            self.assertIs(shows_blame(*asked, told), True)
            self.assertEqual(blame_of(*asked), told)
            lengths.add(len(told[0]))
        self.assertGreaterEqual(lengths, {1, 2, 3})

    def test_none_where_some_row_shows_all(self):
        some = 0
        for table, holes, word, seen in some_asks(2, rounds=4):
            if rows_by_hand(table, holes, word, seen):
                some += 1
                self.assertIsNone(blame_of(table, holes, word, seen))
                self.assertIs(shows_blame(table, holes, word, seen, None), False)
                self.assertIs(shows_blame(table, holes, word, seen, ([], [("fits",)], [])), False)
        self.assertGreater(some, 30)
        self.assertIsNone(blame_of(exchange(2), ("a",), (), []))

    def test_by_hand(self):
        self.assertEqual(blame_of(exchange(2), ("a",), (), [(0, 0, "a"), (0, 0, "b")]), ([1], [("out", 0)], [("a",)]))
        seen = [(0, 0, "a"), (0, 1, "b"), (0, 0, "b")]
        asked = (exchange(2), (None, None), (), seen)
        numbers, tree, rows = blame_of(*asked)
        self.assertEqual(numbers, [0, 2])
        self.assertEqual([row[0] for row in rows], ["b", "a"])
        self.assertTrue(shows_blame(*asked, ([0, 2], [("ask", 0, (1, 2)), ("out", 1), ("out", 0)],
                                             [("b", "b"), ("a", "a")])))
        # Outs are told by their places among the numbers.
        self.assertFalse(shows_blame(*asked, ([0, 2], [("ask", 0, (1, 2)), ("out", 2), ("out", 0)],
                                              [("b", "b"), ("a", "a")])))

    def test_just_eight_sightings(self):
        table = standing(6)
        seen = [(0, 0, "a"), (0, 1, "b"), (0, 2, "c"), (0, 3, "d"), (0, 0, "a"), (0, 1, "b"), (0, 2, "c"), (0, 3, "e")]
        asked = (table, (None,) * 4, (), seen)
        told = blame_of(*asked)
        self.assertEqual(told[0], [3, 7])
        self.assertTrue(shows_blame(*asked, told))

    def test_many_sightings_that_are_all_needed(self):
        # The sum of four marks hangs on all four of them.
        table, holes, word = summed(2), (None,) * 4, (0, 1, 2, 0, 1, 0)
        rng = random.Random(3)
        longest = 0
        for _ in range(200):
            seen = [(rng.randrange(7), rng.randrange(4), rng.choice("ab")) for _ in range(8)]
            told = blame_of(table, holes, word, seen)
            if told is not None:
                longest = max(longest, len(told[0]))
                self.assertTrue(shows_blame(table, holes, word, seen, told))
        self.assertGreaterEqual(longest, 4)

    def test_lists_and_names(self):
        holes, word, seen = [None, "a"], [0], ((0, 0, "a"), (1, 1, "b"))
        told = blame_of(seen=seen, word=word, holes=holes, table=exchange(2))
        again = blame_of(exchange(2), holes, word, list(seen))
        self.assertEqual(told, again)
        self.assertIs(shows_blame(thing=told, seen=seen, word=word, holes=holes, table=exchange(2)), True)
        for part in told:
            part.clear()
        self.assertEqual(blame_of(exchange(2), holes, word, seen), again)


class Looks(Refusing):
    def test_any_least_numbers_and_any_rows(self):
        many = 0
        for asked in some_blamed(4, rounds=1):
            for numbers in all_least(*asked):
                many += 1
                self.assertTrue(shows_blame(*asked, papers_of(*asked, numbers)))
        self.assertGreater(many, 60)

    def test_numbers_that_are_not_least_or_not_all(self):
        many = 0
        for table, holes, word, seen in some_blamed(5, rounds=1):
            least = all_least(table, holes, word, seen)
            for numbers in [list(some) for size in range(len(seen) + 1)
                            for some in combinations(range(len(seen)), size)][:40]:
                if numbers in least:
                    continue
                left = [seen[number] for number in numbers]
                rows = [(rows_by_hand(table, holes, word, left[:at] + left[at + 1:])
                         or all_rows_of(table, holes))[0] for at in range(len(left))]
                many += 1
                thing = (numbers, tree_of(table, holes, word, left), rows)
                self.assertFalse(shows_blame(table, holes, word, seen, thing))
        self.assertGreater(many, 500)

    def test_spoilt_at_one_place(self):
        rng = random.Random(6)
        verdicts = []
        for asked in some_blamed(7, rounds=2):
            table, holes, word, seen = asked
            for _ in range(6):
                numbers, tree, rows = (list(part) for part in blame_of(*asked))
                way = rng.randrange(6)
                if way == 0:
                    numbers[rng.randrange(len(numbers))] = rng.randrange(len(seen))
                elif way == 1:
                    rows[rng.randrange(len(rows))] = rng.choice(all_rows_of(table, holes))
                elif way == 2:
                    rng.shuffle(rows)
                elif way == 3:
                    leaf = rng.choice([at for at, node in enumerate(tree) if node[0] == "out"])
                    tree[leaf] = rng.choice([("out", rng.randrange(len(seen) + 1)), ("fits",)])
                elif way == 4:
                    rows = rows + rows[:1] if rng.random() < 0.5 else rows[1:]
                else:
                    numbers = numbers[::-1] if rng.random() < 0.5 else numbers + numbers[-1:]
                thing = (numbers, tree, rows)
                verdicts.append(shown_by_hand(*asked, thing))
                self.assertIs(shows_blame(*asked, thing), verdicts[-1], (asked, thing))
        self.assertGreater(verdicts.count(False), 150)
        self.assertGreater(verdicts.count(True), 30)

    def test_of_anything(self):
        asked = (crossing(), ("c", None), (0,), [(0, 1, "a"), (0, 0, "c"), (1, 0, "a")])
        numbers, tree, rows = told = blame_of(*asked)
        self.assertEqual(numbers, [0, 2])
        self.assertIs(shows_blame(*asked, told), True)
        for thing in anything() + [list(told), told + (1,), told[:2], [told], (told,)]:
            self.assertIs(shows_blame(*asked, thing), False)
            self.assertIs(shows_blame(*asked, (thing, tree, rows)), False)
            self.assertIs(shows_blame(*asked, (numbers, thing, rows)), False)
            self.assertIs(shows_blame(*asked, (numbers, tree, thing)), False)
            self.assertIs(shows_blame(*asked, (numbers, tree, [rows[0], thing])), False)
            self.assertIs(shows_blame(*asked, (numbers, [thing] + tree[1:], rows)), False)
            if repr(thing) != "2":
                self.assertIs(shows_blame(*asked, ([0, thing], tree, rows)), False)
        for thing in ((tuple(numbers), tree, rows), (numbers, tuple(tree), rows), (numbers, tree, tuple(rows)),
                      (numbers, tree, [list(row) for row in rows]), ([False, 2], tree, rows)):
            self.assertIs(shows_blame(*asked, thing), False)

    def test_numbers_that_are_none_or_do_not_rise(self):
        asked = (exchange(2), ("a",), (), [(0, 0, "a"), (0, 0, "b")])
        self.assertIs(shows_blame(*asked, ([1], [("out", 0)], [("a",)])), True)
        for numbers in ([-1], [2], [0], [1, 1], [0, 1], [1, 0], [True], []):
            for tree in ([("out", 0)], [("out", 1)]):
                for rows in ([("a",)], [("a",)] * 2, []):
                    self.assertIs(shows_blame(*asked, (numbers, tree, rows)), False)

    def test_rows_of_other_holes(self):
        asked = (second_given(), ("a", None), (), [(0, 1, "a"), (0, 1, "b")])
        numbers, tree, rows = blame_of(*asked)
        self.assertEqual(rows, [("a", "b"), ("a", "a")])
        self.assertFalse(shows_blame(*asked, (numbers, tree, [("b", "b"), ("a", "a")])))
        self.assertFalse(shows_blame(*asked, (numbers, tree, [("a", "b", "a"), ("a", "a")])))


if __name__ == "__main__":
    unittest.main()

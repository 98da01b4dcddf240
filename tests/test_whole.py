"""What the document promises over the whole program, one stage held against others."""

import random
import unittest
from itertools import permutations, product

from passmarks.apart import any_parting, short_parting
from passmarks.begun import rows_gone
from passmarks.carriers import crowd_through, through
from passmarks.far import order_again, row_again
from passmarks.faults import sided_fault, three_fault, twice_fault
from passmarks.hidden import all_begun, can_stand
from passmarks.kin import named, part_of, product as product_of, turned
from passmarks.ladderlooks import first_unkept, shows_ladder
from passmarks.ladders import ladder
from passmarks.levels import level_rows, levels
from passmarks.lots import fewest, same_lot
from passmarks.maps import all_maps, parts
from passmarks.orders import order_of
from passmarks.passes import row_behind, rows_on
from passmarks.plainrows import plain, plain_table
from passmarks.texts import read_row, read_table, read_word, show_row, show_table, show_word
from passmarks.words import is_short
from passmarks.yard import Yard
from tests.things import (crossing, exchange, gentle_threes, mirrored, parted, remarked, ringed, second_given,
                          sided_threes, standing, summed, swap_unlike_first, two_mark_tables)


def some_tables():
    return two_mark_tables()[::7] + sided_threes()[::15] + [
        exchange(1), exchange(3), standing(3), crossing(), mirrored(), parted(), summed(3), ringed(3, 1, 2),
        second_given(), swap_unlike_first(), remarked(crossing(), ["b", "c", "a"])]


def some_words(places, rng, many):
    return [tuple(rng.randrange(places - 1) for _ in range(rng.randrange(9))) for _ in range(many)]


class Words(unittest.TestCase):
    def test_two_words_of_one_order(self):
        rng = random.Random(1)
        words = some_words(4, rng, 400)
        lots = {}
        for word in words:
            lots.setdefault(order_of(4, word), []).append(word)
        for table in some_tables():
            three, twice = three_fault(table) is None, twice_fault(table) is None
            for lot in rng.sample(list(lots.values()), 6):
                one, other = rng.choice(lot), rng.choice(lot)
                rungs = ladder(4, one, other)
                short = is_short(4, one) and is_short(4, other)
                self.assertTrue(shows_ladder(4, one, other, rungs, short=short))
                row = tuple(rng.choice(table.marks()) for _ in range(4))
                if three and (twice or short):
                    # What becomes of any row hangs on the runners' order alone.
                    self.assertIsNone(first_unkept(table, row, one, rungs))
                    self.assertEqual(row_behind(table, row, one), row_behind(table, row, other))
                if row_behind(table, row, one) != row_behind(table, row, other):
                    self.assertIsNotNone(first_unkept(table, row, one, rungs))
                    self.assertIsNotNone(short_parting(table, 4) if short else any_parting(table, 4))


class Plain(unittest.TestCase):
    def test_passes_in_plain_rows(self):
        rng = random.Random(2)
        for table in sided_threes()[::4] + [ringed(4, 1, 2), crossing()]:
            flat = plain_table(table)
            for _ in range(6):
                row = tuple(rng.choice(table.marks()) for _ in range(6))
                word = some_words(6, rng, 1)[0]
                self.assertEqual([plain(table, there) for there in rows_on(table, row, word)],
                                 rows_on(flat, plain(table, row), word))

    def test_lots_are_what_words_make(self):
        rng = random.Random(3)
        for table in gentle_threes()[::3]:
            for _ in range(4):
                row = tuple(rng.choice(table.marks()) for _ in range(60))
                word = tuple(rng.randrange(59) for _ in range(60))
                far = row_again(table, row, word, rng.randrange(-(10 ** 60), 10 ** 60))
                self.assertTrue(same_lot(table, row, far))
                self.assertEqual(row_behind(table, row, fewest(table, row, far)[0]), far)

    def test_rows_again_by_orders(self):
        rng = random.Random(4)
        for table in gentle_threes()[::3]:
            row = tuple(rng.choice(table.marks()) for _ in range(5))
            word = some_words(5, rng, 1)[0]
            times = rng.randrange(-(10 ** 60), 10 ** 60)
            order = order_again(5, word, times)
            self.assertEqual(plain(table, row_again(table, row, word, times)),
                             tuple(plain(table, row)[runner] for runner in order))


class Kin(unittest.TestCase):
    def test_what_maps_keep(self):
        rng = random.Random(5)
        tables = some_tables()
        for one, other in zip(tables, tables[3:] + tables[:3]):
            for given in all_maps(one, other):
                row = tuple(rng.choice(one.marks()) for _ in range(4))
                word = some_words(4, rng, 1)[0]
                self.assertEqual(tuple(given[mark] for mark in row_behind(one, row, word)),
                                 row_behind(other, tuple(given[mark] for mark in row), word))

    def test_what_kin_do(self):
        rng = random.Random(6)
        for table in some_tables():
            row = tuple(rng.choice(table.marks()) for _ in range(4))
            word = some_words(4, rng, 1)[0]
            behind = row_behind(table, row, word)
            self.assertEqual(row_behind(turned(table), row[::-1], tuple(2 - place for place in word)), behind[::-1])
            names = dict(zip(table.marks(), "xyz"))
            self.assertEqual(row_behind(named(table, names), tuple(names[mark] for mark in row), word),
                             tuple(names[mark] for mark in behind))
            for part in parts(table)[1:]:
                if set(row) <= set(part):
                    self.assertEqual(row_behind(part_of(table, part), row, word), behind)
            twos = {two: "".join(two) for two in product("ab", table.marks())}
            both = product_of(second_given(), table, twos)
            other = tuple(rng.choice("ab") for _ in range(4))
            self.assertEqual(row_behind(both, tuple(twos[two] for two in zip(other, row)), word),
                             tuple(twos[two] for two in zip(row_behind(second_given(), other, word), behind)))

    def test_levels_keep_what_words_make(self):
        rng = random.Random(7)
        for table in some_tables():
            row = tuple(rng.choice(table.marks()) for _ in range(5))
            word = some_words(5, rng, 1)[0]
            told = [row_behind(level, there, word) for level, there in zip(levels(table), level_rows(table, row))]
            self.assertEqual(level_rows(table, row_behind(table, row, word)), told)


class Yards(unittest.TestCase):
    def test_a_yard_is_what_its_words_and_looks_tell(self):
        rng = random.Random(8)
        for table in some_tables():
            holes = tuple(rng.choice(table.marks() + [None]) for _ in range(4))
            yard = Yard()
            yard.run([("table", "t", table), ("row", "r", "t", holes)])
            word, seen = (), []
            for _ in range(6):
                step = some_words(4, rng, 1)[0]
                if step:
                    yard.do(("word", "r", step))
                word += step
                place = rng.randrange(4)
                mark = rng.choice(yard.can("r", place))
                self.assertEqual(yard.can("r", place), can_stand(table, holes, word, seen, len(word), place))
                yard.do(("look", "r", place, mark))
                seen.append((len(word), place, mark))
                self.assertEqual(yard.looks("r"), seen)
                self.assertEqual(yard.beginnings("r"), all_begun(table, holes, word, seen))
                self.assertEqual(yard.order("r"), order_of(4, word))
            if holes.count(None) == 0:
                self.assertEqual(yard.now("r"), row_behind(table, holes, word))
                self.assertEqual(yard.plain("r"), plain(table, yard.now("r")))

    def test_carriers_are_what_they_are_elsewhere(self):
        rng = random.Random(9)
        for table in some_tables():
            row = tuple(rng.choice(table.marks()) for _ in range(5))
            crowd = tuple(rng.choice(table.marks()) for _ in range(3))
            yard = Yard()
            yard.run([("table", "t", table), ("row", "r", "t", row)])
            yard.run([("carry", "r", mark) for mark in reversed(crowd)])
            self.assertEqual(yard.now("r"), crowd_through(table, crowd, row)[0])
            self.assertEqual(rows_gone(table, [row], crowd[-1:])[0][5], through(table, crowd[-1], row)[0])

    def test_whatever_is_taken_back(self):
        # All ways in which four deeds are done and two of them taken back come to what the deeds left make.
        deeds = [("pass", "r", 0), ("carry", "r", "b"), ("look", "r", 2, "b"), ("word", "r", (1, 0))]
        for order in permutations(deeds):
            yard, plain_yard = Yard(), Yard()
            for one in (yard, plain_yard):
                one.run([("table", "t", mirrored()), ("row", "r", "t", ("a", "b", "b"))])
            for deed in order[:2]:
                if self.does(plain_yard, deed):
                    self.assertTrue(self.does(yard, deed))
            done = sum(self.does(yard, deed) for deed in order[2:])
            for _ in range(done):
                self.assertIs(yard.undo(), True)
            self.assertTrue(yard == plain_yard)
            self.assertEqual((yard.now("r"), yard.looks("r")), (plain_yard.now("r"), plain_yard.looks("r")))

    def does(self, yard, deed):
        try:
            yard.do(deed)
        except ValueError:
            return False
        return True


class Texts(unittest.TestCase):
    def test_there_and_back(self):
        rng = random.Random(10)
        for table in some_tables():
            row = tuple(rng.choice(table.marks()) for _ in range(6))
            word = some_words(6, rng, 1)[0]
            again = read_table(show_table(table))
            self.assertEqual(row_behind(again, read_row(again, show_row(row)), read_word(show_word(word))),
                             row_behind(table, row, word))
            self.assertEqual((three_fault(again), sided_fault(again)), (three_fault(table), sided_fault(table)))


if __name__ == "__main__":
    unittest.main()

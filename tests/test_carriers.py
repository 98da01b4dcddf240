import unittest
from itertools import product

from passmarks.carriers import crowd_through, through, through_again, through_from_behind
from passmarks.errors import NoMark, NoRow
from passmarks.faults import three_fault
from passmarks.passes import row_behind
from tests.things import (Refusing, anything, crossing, exchange, mirrored, remarked, ringed, second_given,
                          sided_threes, standing, summed, swap_unlike_first, table_of, two_mark_tables)


def some_tables():
    return two_mark_tables()[::5] + sided_threes()[::9] + [
        crossing(), summed(4), ringed(6, 1, 2), exchange(1), remarked(summed(3), ["c", "a", "b"])]


def rows(table, most):
    return [row for places in range(1, most + 1) for row in product(table.marks(), repeat=places)]


def gone(table, mark, row):
    """A carrier's way, single pass by single pass, of rows of however many places."""
    left = []
    for runner in row:
        ahead, mark = table.passed(mark, runner)
        left.append(ahead)
    return tuple(left), mark


class Carriers(unittest.TestCase):
    def test_by_single_passes(self):
        for table in some_tables():
            for row in rows(table, 3):
                for mark in table.marks():
                    behind = row_behind(table, (mark,) + row, tuple(range(len(row))))
                    self.assertEqual(through(table, mark, row), (behind[:-1], behind[-1]))
                    behind = row_behind(table, row + (mark,), tuple(reversed(range(len(row)))))
                    self.assertEqual(through_from_behind(table, mark, row), (behind[1:], behind[0]))

    def test_by_hand(self):
        self.assertEqual(through(ringed(4, 1, 2), "a", ("a", "b", "d")), (("b", "c", "a"), "c"))
        self.assertEqual(through_from_behind(ringed(4, 1, 2), "a", ("a", "b", "d")), (("c", "d", "b"), "d"))
        self.assertEqual(through(crossing(), "a", ("c", "b", "c")), (("c", "b", "c"), "a"))
        self.assertEqual(through_from_behind(crossing(), "a", ("c", "b", "c")), (("c", "b", "c"), "a"))
        self.assertEqual(through(second_given(), "a", ("b", "a")), (("b", "a"), "a"))
        self.assertEqual(through_from_behind(second_given(), "a", ("b", "b")), (("a", "a"), "a"))

    def test_one_place_and_sixty(self):
        self.assertEqual(through(summed(2), "b", ("b",)), (("a",), "b"))
        self.assertEqual(through_from_behind(summed(2), "b", ("b",)), (("b",), "a"))
        row = tuple("abcacb" * 10)
        for table in (crossing(), mirrored(), summed(3)):
            for mark in "abc":
                self.assertEqual(through(table, mark, row), gone(table, mark, row))
        self.assertEqual(through(exchange(3), "b", row), (row, "b"))
        self.assertEqual(through_from_behind(exchange(3), "b", row), (row, "b"))
        self.assertEqual(through_from_behind(ringed(3, 1, 2), "a", ("a",) * 60), (("c",) * 60, "a"))
        self.assertEqual(through_from_behind(ringed(3, 1, 2), "a", ("b",) * 59), (("a",) * 59, "c"))

    def test_lists_and_names(self):
        row = ["a", "b"]
        for call in (through, through_from_behind):
            told = call(row=row, mark="a", table=summed(2))
            self.assertEqual(told, call(summed(2), "a", ("a", "b")))
            self.assertIsInstance(told, tuple)
            self.assertIsInstance(told[0], tuple)
        self.assertEqual(row, ["a", "b"])


class Crowds(Refusing):
    def test_by_single_passes(self):
        for table in some_tables():
            for crowd in rows(table, 2):
                for row in rows(table, 2):
                    self.check(table, crowd, row)
        for table in (summed(3), mirrored()):
            for crowd in rows(table, 3)[::5]:
                for row in rows(table, 3)[::3]:
                    self.check(table, crowd, row)

    def check(self, table, crowd, row):
        many = len(crowd)
        word = [place + step for place in reversed(range(many)) for step in range(len(row))]
        behind = row_behind(table, crowd + row, word)
        self.assertEqual(crowd_through(table, crowd, row), (behind[:len(row)], behind[len(row):]))
        if three_fault(table) is None:
            word = [many - 1 - step + place for place in range(len(row)) for step in range(many)]
            self.assertEqual(row_behind(table, crowd + row, word), behind)

    def test_a_crowd_of_one_is_a_carrier(self):
        for table in (summed(4), crossing()):
            for mark in table.marks():
                for row in rows(table, 3):
                    left, out = through(table, mark, row)
                    self.assertEqual(crowd_through(table, (mark,), row), (left, (out,)))

    def test_sixty_places(self):
        crowd, row = tuple("abcacb" * 10), tuple("aacbb" * 12)
        self.assertEqual(crowd_through(exchange(3), crowd, row), (row, crowd))
        for table in (summed(3), mirrored()):
            left, out = row, []
            for mark in reversed(crowd):
                left, mark = gone(table, mark, left)
                out.insert(0, mark)
            self.assertEqual(crowd_through(table, crowd, row), (left, tuple(out)))
        self.assertEqual(crowd_through(exchange(1), ("a",), ("a",) * 60), (("a",) * 60, ("a",)))

    def test_lists_and_names(self):
        crowd, row = ["a", "b"], ["b", "b"]
        told = crowd_through(row=row, crowd=crowd, table=summed(2))
        self.assertEqual(told, crowd_through(summed(2), ("a", "b"), ("b", "b")))
        self.assertEqual([part.__class__ for part in (told,) + told], [tuple] * 3)
        self.assertEqual((crowd, row), (["a", "b"], ["b", "b"]))

    def test_refused(self):
        for thing in anything():
            if not isinstance(thing, (list, tuple)):
                self.refused(NoRow(-1), crowd_through, summed(2), thing, ("q",))
                self.refused(NoRow(-1), crowd_through, summed(2), ["a"], thing)
            if repr(thing) not in ("'a'", "'b'"):
                self.refused(NoRow(1), crowd_through, summed(2), ["a", thing], ("q",))
                self.refused(NoRow(2), crowd_through, summed(2), ("a", "b"), ["b", "b", thing])
        self.refused(NoRow(-1), crowd_through, summed(2), ("a",) * 61, ("q",))
        self.refused(NoRow(0), crowd_through, summed(2), ("q",), ("a",) * 61)
        self.refused(NoRow(-1), crowd_through, summed(2), ("a",), ("a",) * 61)


class Again(Refusing):
    def test_row_by_row(self):
        for table in some_tables():
            for row in rows(table, 2):
                for mark in table.marks():
                    left, carried = row, mark
                    for times in range(9):
                        self.assertEqual(through_again(table, mark, row, times), (left, carried))
                        left, carried = gone(table, carried, row)

    def test_no_times(self):
        self.assertEqual(through_again(summed(3), "c", ("b", "c"), 0), (("b", "c"), "c"))
        self.assertEqual(through_again(summed(3), "c", ["b", "c"], 0), (("b", "c"), "c"))

    def test_once(self):
        for mark in "abc":
            self.assertEqual(through_again(summed(3), mark, ("b", "c"), 1), through(summed(3), mark, ("b", "c")))

    def test_many_times(self):
        # A round of six marks, one of five behind a first one, and of one.
        for times in (10 ** 60, 10 ** 60 - 1, 10 ** 60 - 5, 10 ** 20 + 7, 60, 61, 62, 63, 64, 65):
            at = times % 6
            self.assertEqual(through_again(ringed(6, 0, 1), "a", ("a",), times), (("a",), "abcdef"[at]))
            left, mark = through_again(ringed(6, 0, 5), "c", tuple("abcdef" * 10), times)
            self.assertEqual((left, mark), (tuple("abcdef" * 10), "c"))
            self.assertEqual(through_again(ringed(6, 0, 5), "c", ("b",), times), (("b",), "cbafed"[at]))
            self.assertEqual(through_again(exchange(1), "a", ("a",) * 60, times), (("a",) * 60, "a"))
            self.assertEqual(through_again(second_given(), "b", ("b", "a"), times), (("b", "a"), "a"))
        # What the last one of the rows becomes hangs on the mark that comes to it.
        self.assertEqual(through_again(summed(6), "b", ("c",), 10 ** 60), (("d",), "b"))

    def test_a_way_into_a_round(self):
        # The last of six marks becomes one of those ahead of it, so the round begins there.
        for first in range(6):
            steps = dict(zip("abcdef", "bcdef" + "abcdef"[first]))
            table = table_of(list("abcdef"), lambda x, y: (x, steps[x]))
            marks = "abcdef" + "abcdef"[first:] * 14
            for times in range(1, 14):
                self.assertEqual(through_again(table, "a", ("b",), times), ((marks[times - 1],), marks[times]))
            for times in (10 ** 60, 10 ** 60 - 1, 10 ** 60 - 2, 10 ** 60 - 9):
                few = first + 7 + (times - first - 7) % (6 - first)
                self.assertEqual(through_again(table, "a", ("b",), times), ((marks[few - 1],), marks[few]))

    def test_lists_and_names(self):
        row = ["b", "c"]
        told = through_again(times=2, row=row, mark="c", table=summed(3))
        self.assertEqual(told, through_again(summed(3), "c", ("b", "c"), 2))
        self.assertIsInstance(told[0], tuple)
        self.assertEqual(row, ["b", "c"])


class Refused(Refusing):
    def calls(self):
        yield through
        yield through_from_behind
        for times in (0, 1, 2, 10 ** 60):
            yield lambda table, mark, row: through_again(table, mark, row, times)

    def test_rows_then_marks(self):
        for call in self.calls():
            for table in (exchange(2), standing(2), swap_unlike_first()):
                self.refused(NoRow(-1), call, table, "q", ())
                self.refused(NoRow(-1), call, table, None, ("a",) * 61)
                self.refused(NoRow(1), call, table, "a", ("a", "q"))
                self.refused(NoMark("q"), call, table, "q", ("a", "b"))
                self.refused(NoMark("ab"), call, table, "ab", ("a",) * 60)

    def test_anything(self):
        for call in self.calls():
            for thing in anything():
                if not isinstance(thing, (list, tuple)):
                    self.refused(NoRow(-1), call, summed(2), "q", thing)
                if repr(thing) not in ("'a'", "'b'"):
                    self.refused(NoRow(1), call, summed(2), thing, ["a", thing])
                    self.refused(NoMark(thing), call, summed(2), thing, ["a", "b"])


if __name__ == "__main__":
    unittest.main()

import unittest

from passmarks.errors import NoRow, NoWord
from passmarks.passes import row_behind, rows_on
from tests.things import anything, exchange, ringed, second_given, table_of


def refusal(call, *arguments):
    """The class and the field of what is refused."""
    try:
        call(*arguments)
    except (NoRow, NoWord) as refused:
        return refused.__class__, refused.at
    return None


class Told(unittest.TestCase):
    def test_one_pass_at_each_place(self):
        table = ringed(4, 1, 2)
        row = ("a", "b", "c", "d")
        self.assertEqual(row_behind(table, row, (0,)), ("c", "c", "c", "d"))
        self.assertEqual(row_behind(table, row, (1,)), ("a", "d", "d", "d"))
        self.assertEqual(row_behind(table, row, (2,)), ("a", "b", "a", "a"))

    def test_passes_one_behind_the_other(self):
        table = ringed(3, 1, 0)
        self.assertEqual(row_behind(table, ("a", "b", "c"), (0, 1, 0)), ("b", "c", "a"))
        self.assertEqual(rows_on(table, ("a", "b", "c"), (0, 1, 0)),
                         [("a", "b", "c"), ("c", "a", "c"), ("c", "a", "a"), ("b", "c", "a")])

    def test_a_pass_ahead_and_behind(self):
        table = table_of(["a", "b"], lambda x, y: (x, "b"))
        self.assertEqual(row_behind(table, ("a", "a", "a"), (0,)), ("a", "b", "a"))
        self.assertEqual(row_behind(table, ("a", "a", "a"), (1,)), ("a", "a", "b"))

    def test_runners_that_exchange(self):
        self.assertEqual(row_behind(exchange(3), ("a", "b", "c"), (0, 1)), ("b", "c", "a"))
        self.assertEqual(row_behind(second_given(), ("a", "b", "a"), (0, 1)), ("b", "a", "a"))

    def test_no_passes(self):
        self.assertEqual(row_behind(exchange(2), ("a", "b"), ()), ("a", "b"))
        self.assertEqual(rows_on(exchange(2), ("a", "b"), ()), [("a", "b")])

    def test_one_place_and_sixty(self):
        self.assertEqual(row_behind(exchange(1), ("a",), ()), ("a",))
        row = ("a",) + ("b",) * 59
        self.assertEqual(row_behind(exchange(2), row, tuple(range(59))), ("b",) * 59 + ("a",))
        self.assertEqual(len(rows_on(exchange(2), row, tuple(range(59)))), 60)
        self.assertEqual(row_behind(exchange(2), row[::-1], (58,)), ("b",) * 58 + ("a", "b"))

    def test_two_thousand_passes(self):
        self.assertEqual(row_behind(ringed(5, 1, 0), ("a", "a"), (0,) * 2000), ("a", "a"))
        self.assertEqual(row_behind(ringed(5, 1, 0), ("a", "a"), (0,) * 1999), ("a", "e"))
        self.assertEqual(len(rows_on(exchange(2), ("a", "b"), [0] * 2000)), 2001)

    def test_lists_and_tuples_and_names(self):
        for row in (("a", "b", "a"), ["a", "b", "a"]):
            for word in ((0, 1), [0, 1]):
                behind = row_behind(table=exchange(2), row=row, word=word)
                self.assertEqual(behind, ("b", "a", "a"))
                self.assertIsInstance(behind, tuple)
                rows = rows_on(table=exchange(2), row=row, word=word)
                self.assertEqual(rows, [("a", "b", "a"), ("b", "a", "a"), ("b", "a", "a")])

    def test_nothing_handed_in_is_changed(self):
        table, row, word = exchange(2), ["a", "b"], [0]
        rows = rows_on(table, row, word)
        self.assertEqual(row_behind(table, row, word), ("b", "a"))
        self.assertEqual((row, word), (["a", "b"], [0]))
        rows.append("c")
        self.assertEqual(len(rows_on(table, row, word)), 2)


class Refused(unittest.TestCase):
    def both(self, *arguments):
        told = refusal(row_behind, *arguments)
        self.assertEqual(told, refusal(rows_on, *arguments))
        return told

    def test_how_long_a_row_is(self):
        self.assertEqual(self.both(exchange(1), (), ()), (NoRow, -1))
        self.assertEqual(self.both(exchange(1), [], ()), (NoRow, -1))
        self.assertEqual(self.both(exchange(1), ("a",) * 61, ()), (NoRow, -1))
        self.assertEqual(self.both(exchange(1), ("z",) * 61, ()), (NoRow, -1))
        self.assertIsNone(self.both(exchange(1), ("a",) * 60, ()))

    def test_rows_of_anything(self):
        for thing in anything():
            good = isinstance(thing, (tuple, list)) and len(thing) > 0 and set(map(repr, thing)) <= {"'a'", "'b'"}
            told = self.both(exchange(2), thing, ())
            if good:
                self.assertIsNone(told)
            elif isinstance(thing, (tuple, list)):
                self.assertEqual(told, (NoRow, 0 if thing else -1))
            else:
                self.assertEqual(told, (NoRow, -1))

    def test_the_first_place_without_a_mark(self):
        for thing in anything():
            if isinstance(thing, str) and thing in ("a", "b"):
                continue
            self.assertEqual(self.both(exchange(2), ("a", "b", thing), ()), (NoRow, 2))
            self.assertEqual(self.both(exchange(2), ["a", thing, thing], ()), (NoRow, 1))
            self.assertEqual(self.both(exchange(2), ("a",) * 59 + (thing,), ()), (NoRow, 59))

    def test_words_of_anything(self):
        for thing in anything():
            told = self.both(exchange(2), ("a", "b"), thing)
            if not isinstance(thing, (tuple, list)):
                self.assertEqual(told, (NoWord, -1))
            elif list(map(repr, thing)) in ([], ["0"]):
                self.assertIsNone(told)
            else:
                self.assertEqual(told, (NoWord, 0))

    def test_the_first_that_is_no_pass(self):
        for thing in anything():
            if repr(thing) in ("0", "1"):
                continue
            self.assertEqual(self.both(exchange(2), ("a", "b", "a"), (0, 1, thing, "z")), (NoWord, 2))
            self.assertEqual(self.both(exchange(2), ["a", "b", "a"], [0, thing, -1]), (NoWord, 1))

    def test_a_pass_at_the_last_place(self):
        self.assertEqual(self.both(exchange(2), ("a", "b", "a"), (0, 1, 2)), (NoWord, 2))
        self.assertEqual(self.both(exchange(2), ("a",), (0,)), (NoWord, 0))
        self.assertEqual(self.both(exchange(2), ("a",) * 60, (58, 59)), (NoWord, 1))
        self.assertEqual(self.both(exchange(2), ("a", "b"), (0, -1)), (NoWord, 1))

    def test_how_long_a_word_is(self):
        self.assertEqual(self.both(exchange(1), ("a", "a"), (0,) * 2001), (NoWord, -1))
        self.assertEqual(self.both(exchange(1), ("a", "a"), [7] * 2001), (NoWord, -1))
        self.assertIsNone(self.both(exchange(1), ("a", "a"), (0,) * 2000))
        self.assertEqual(self.both(exchange(1), ("a", "a"), (0,) * 1999 + (1,)), (NoWord, 1999))

    def test_the_row_goes_first(self):
        for thing in anything():
            self.assertEqual(self.both(exchange(2), ("a", "c"), thing), (NoRow, 1))
            self.assertEqual(self.both(exchange(2), (), thing), (NoRow, -1))


if __name__ == "__main__":
    unittest.main()

import unittest

from passmarks.errors import Unread
from passmarks.tables import Table
from passmarks.yard import Yard
from passmarks.yardtexts import read_yard, show_yard
from tests.things import Refusing, a_yard, anything, exchange, summed

ROWS = [
    "table t", "marks b a", "pair b b b b", "pair b a a b", "pair a b b a", "pair a a a a",
    "row r t b ? a ?", "pass r 0", "word r 1 2 0", "carry r a", "look r 3 b", "tell r 1 b", "twin r s",
    "change t", "marks b a", "pair b b b b", "pair b a a b", "pair a b b a", "pair a a a a",
    "drop s", "row s t ?"]
# The first rows of deeds, with the rows behind them that are theirs.
FIRSTS = {0: range(1, 6), 13: range(14, 19)}
TEXT = "\n".join(ROWS)


def written():
    table = Table(["b", "a"], [[("b", "b"), ("a", "b")], [("b", "a"), ("a", "a")]])
    yard = Yard()
    for deed in (("table", "t", table), ("row", "r", "t", ("b", None, "a", None)), ("pass", "r", 0),
                 ("word", "r", (1, 2, 0)), ("carry", "r", "a"), ("look", "r", 3, "b"), ("tell", "r", 1, "b"),
                 ("twin", "r", "s"), ("change", "t", table), ("drop", "s"), ("row", "s", "t", (None,))):
        yard.do(deed)
    return yard


def row_of(at):
    """The row that is refused where the row at this place is wrong."""
    for first, rows in FIRSTS.items():
        if at in rows:
            return first
    return at


class Shown(unittest.TestCase):
    def test_by_hand(self):
        self.assertEqual(show_yard(written()), TEXT)
        self.assertEqual(show_yard(yard=Yard()), "")

    def test_runs_and_what_was_taken_back(self):
        yard = Yard()
        yard.run([("table", "t", exchange(1)), ("row", "r", "t", ["a"] * 60)])
        yard.run([])
        yard.do(("word", "r", [58, 0]))
        self.assertEqual(show_yard(yard), "table t\nmarks a\npair a a a a\nrow r t" + " a" * 60 + "\nword r 58 0")
        yard.undo()
        self.assertEqual(show_yard(yard), "table t\nmarks a\npair a a a a\nrow r t" + " a" * 60)


class Read(Refusing):
    def test_there_and_back(self):
        for yard in (written(), Yard(), a_yard()):
            told = read_yard(show_yard(yard))
            self.assertIsInstance(told, Yard)
            self.assertTrue(told == yard)
        self.assertTrue(read_yard(text="") == Yard())

    def test_one_by_one(self):
        yard = read_yard("table t\nmarks a\npair a a a a\nrow r t a")
        self.assertIs(yard.redo(), False)
        self.assertIs(yard.undo(), True)
        self.assertEqual(yard.names(), ["t"])
        self.assertIs(yard.undo(), True)
        self.assertIs(yard.undo(), False)

    def test_of_anything(self):
        for thing in anything():
            if not isinstance(thing, str):
                self.refused(Unread(-1), read_yard, thing)
            elif thing:
                self.refused(Unread(0), read_yard, thing)
        self.refused(Unread(-1), read_yard, ROWS)
        self.refused(Unread(-1), read_yard, written())

    def test_a_row_out(self):
        for at in range(len(ROWS)):
            text = "\n".join(ROWS[:at] + ROWS[at + 1:])
            try:
                told = read_yard(text)
            except Unread as refused:
                if at in FIRSTS:
                    # The table's own rows stand there then, the first of which is no deed.
                    self.assertEqual(refused.row, at)
                elif row_of(at) != at:
                    self.assertEqual(refused.row, row_of(at))
                else:
                    self.assertGreaterEqual(refused.row, at)
                continue
            self.assertEqual(show_yard(told), text)

    def test_a_row_twice(self):
        for at in range(len(ROWS)):
            text = "\n".join(ROWS[:at + 1] + ROWS[at:])
            try:
                self.assertEqual(show_yard(read_yard(text)), text)
            except Unread as refused:
                # A last row of a table that comes twice is one that stands behind the table.
                last = [rows[-1] for rows in FIRSTS.values()]
                self.assertEqual(refused.row, at + 1 if at in last or row_of(at) == at and at not in FIRSTS
                                 else row_of(at))

    def test_blanks_and_line_feeds(self):
        for at, row in enumerate(ROWS):
            for spoilt in (row + " ", " " + row, row.replace(" ", "  ", 1), row.replace(" ", "", 1), row + "\r",
                           row.upper(), row.replace(" ", "\t", 1)):
                self.refused(Unread(row_of(at)), read_yard, "\n".join(ROWS[:at] + [spoilt] + ROWS[at + 1:]))
            self.refused(Unread(row_of(at)), read_yard, "\n".join(ROWS[:at] + [""] + ROWS[at:]))
        self.refused(Unread(len(ROWS)), read_yard, TEXT + "\n")
        self.refused(Unread(0), read_yard, "\n" + TEXT)
        self.refused(Unread(0), read_yard, "\n")
        self.refused(Unread(0), read_yard, " ")

    def test_numbers(self):
        ahead = "\n".join(ROWS[:7]) + "\n"
        for row in ("pass r 00", "pass r 01", "pass r -1", "pass r +1", "pass r 1.0", "pass r 3", "pass r", "pass r a",
                    "pass r " + "9" * 60, "pass r " + "9" * 61, "pass r 0 1", "word r 0 01", "word r", "look r 00 b",
                    "look r 4 b", "tell r 01 b", "tell r 0 b", "pass r \u0661", "look r b 0", "pass r 1" + "0" * 5000,
                    "carry r ?", "look r 1 ?", "word r ?", "pass r ?"):
            self.refused(Unread(7), read_yard, ahead + row)
            self.refused(Unread(7), read_yard, ahead + row + "\nq")
        for row in ("pass r 0", "word r 0 1 2", "look r 1 a", "tell r 3 a"):
            self.assertEqual(show_yard(read_yard(ahead + row)), ahead + row)

    def test_names(self):
        ahead = "\n".join(ROWS[:7]) + "\n"
        for row in ("row R t a", "row abcdefghi t a", "row x t A", "row x q a", "row x t", "row x", "row", "row r t a",
                    "row x t c", "row x t ??", "row ? t a", "row x ? a", "twin r t", "twin r", "twin r x x", "drop",
                    "drop q", "drop t", "drop r r", "names", "undo", "redo", "text", "now r", "tables x", "marks a",
                    "pair a a a a", "table", "table x", "change t", "row x t" + " a" * 61, "row x t" + " ?" * 5):
            self.refused(Unread(7), read_yard, ahead + row)
        for row in ("row table t a ? ? ? ?", "twin r pass", "drop r", "row abcdefgh t" + " a" * 60):
            self.assertEqual(show_yard(read_yard(ahead + row)), ahead + row)

    def test_tables_rows(self):
        six = "\n".join(["table t", "marks a b c d e f"] + ["pair a a a a"] * 36)
        self.refused(Unread(0), read_yard, six)
        for rows in (["table t"], ["table t", "marks"], ["table t", "marks a"], ["table t", "marks a", "pair a a a b"],
                     ["table t", "marks a", "pair a a a a", "pair a a a a"][:2], ["table t", "pair a a a a"],
                     ["table t", "marks a a", "pair a a a a"], ["table T", "marks a", "pair a a a a"],
                     ["table t u", "marks a", "pair a a a a"], ["table t marks a", "pair a a a a"],
                     ["change t", "marks a", "pair a a a a"], ["table t", "table u", "marks a", "pair a a a a"],
                     ["table t", "marks a", "", "pair a a a a"], ["table t", "marks A", "pair A A A A"]):
            self.refused(Unread(0), read_yard, "\n".join(rows))
        good = ["table t", "marks a", "pair a a a a"]
        self.refused(Unread(3), read_yard, "\n".join(good + good))
        self.refused(Unread(3), read_yard, "\n".join(good + ["change t"] + ["marks b", "pair b b b b"]))
        self.refused(Unread(3), read_yard, "\n".join(good + ["pair a a a a"]))
        self.assertEqual(read_yard("\n".join(good)).table("t"), exchange(1))

    def test_all_that_is_refused(self):
        ahead = ["table t", "marks a b", "pair a a a a", "pair a b b a", "pair b a a b", "pair b b b b",
                 "row r t a ?", "look r 1 b"]
        for row in ("look r 1 a", "tell r 1 a", "look r 0 b", "word r" + " 0" * 61, "row t t a", "twin q s"):
            self.refused(Unread(8), read_yard, "\n".join(ahead + [row]))
            self.refused(Unread(8), read_yard, "\n".join(ahead + [row, row, ""]))
        looks = ["look r 1 b"] * 7
        self.assertEqual(len(read_yard("\n".join(ahead + looks)).looks("r")), 8)
        self.refused(Unread(15), read_yard, "\n".join(ahead + looks + ["look r 1 b"]))
        rows = ["row " + one + other + " t a" for one in "abcdef" for other in "abc"]
        self.assertEqual(len(read_yard("\n".join(ahead + rows)).names()), 20)
        self.refused(Unread(26), read_yard, "\n".join(ahead + rows + ["row x t a"]))
        # By this table the looks can't be, so that the table's first row is the one that is told.
        change = ["change t", "marks a b", "pair a a a a", "pair a b b a", "pair b a a b", "pair b b b b"]
        self.assertTrue(read_yard("\n".join(ahead + change)))
        passed = ahead + ["pass r 0", "look r 0 b"]
        self.assertTrue(read_yard("\n".join(passed + change)))
        self.refused(Unread(10), read_yard, "\n".join(passed + change[:3] + ["pair a b a a"] + change[4:]))

    def test_two_hundred_deeds_and_one_more(self):
        rows = ["table t", "marks a", "pair a a a a", "row r t a"] + ["twin r s", "drop s"] * 99
        self.assertEqual(len(read_yard("\n".join(rows)).deeds()), 200)
        self.refused(Unread(202), read_yard, "\n".join(rows + ["twin r s"]))

    def test_summed(self):
        yard = Yard()
        yard.run([("table", "t", summed(6)), ("row", "r", "t", (None,) * 4), ("carry", "r", "f")])
        self.assertTrue(read_yard(show_yard(yard)) == yard)


if __name__ == "__main__":
    unittest.main()

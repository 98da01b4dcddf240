import random
import unittest

from passmarks.errors import NoText
from passmarks.tables import Table
from passmarks.texts import read_row, read_table, read_word, show_row, show_table, show_word
from tests.things import (Refusing, anything, crossing, exchange, mirrored, parted_below, remarked, summed, table_of,
                          two_mark_tables)

LONG = table_of(["abcdefgh", "z", "marks", "pair", "word", "q"], lambda x, y: (y, "pair"))


def some_tables():
    return two_mark_tables()[::5] + [exchange(1), exchange(6), summed(6), crossing(), mirrored(), parted_below(), LONG,
                                     remarked(crossing(), ["b", "c", "a"])]


class Shown(unittest.TestCase):
    def test_tables(self):
        self.assertEqual(show_table(exchange(1)), "marks a\npair a a a a")
        self.assertEqual(show_table(table=remarked(summed(2), ["b", "a"])),
                         "marks b a\npair b b a b\npair b a b b\npair a b b a\npair a a a a")
        rows = show_table(LONG).split("\n")
        self.assertEqual(len(rows), 37)
        self.assertEqual(rows[0], "marks abcdefgh z marks pair word q")
        self.assertEqual(rows[2], "pair abcdefgh z z pair")

    def test_rows(self):
        self.assertEqual(show_row(("a", "b", "a")), "a b a")
        self.assertEqual(show_row(row=["abcdefgh"]), "abcdefgh")
        self.assertEqual(show_row(("a",) * 60), "a " * 59 + "a")

    def test_words(self):
        self.assertEqual(show_word(()), "word")
        self.assertEqual(show_word((0, 10, 58)), "word 0 10 58")
        self.assertEqual(show_word(word=[3]), "word 3")
        self.assertEqual(show_word((7,) * 2000), "word" + " 7" * 2000)


class Tables(Refusing):
    def test_there_and_back(self):
        for table in some_tables():
            told = read_table(text=show_table(table))
            self.assertIsInstance(told, Table)
            self.assertTrue(told == table)

    def test_first_rows(self):
        for first in ("", "marks", "marks ", " marks a", "marks  a", "marks a ", "marks a a", "marks A", "Marks a",
                      "marks a b c d e f g", "marks abcdefghi", "mark a", "a", "marks a\t", "marks 1", "marks a,b",
                      "marks a b a", "pair a a a a", "word", "marks a\r"):
            self.refused(NoText(0), read_table, first)
            self.refused(NoText(0), read_table, first + "\npair a a a a")
            self.refused(NoText(0), read_table, first + "\nq")

    def test_rows_that_are_missing_or_too_many(self):
        for table in (exchange(1), summed(2), summed(3), LONG):
            rows = show_table(table).split("\n")
            for many in range(1, len(rows)):
                self.refused(NoText(many), read_table, "\n".join(rows[:many]))
                self.refused(NoText(many), read_table, "\n".join(rows[:many]) + "\n")
            for more in ("", "pair a a a a", rows[-1], rows[0], " "):
                self.refused(NoText(len(rows)), read_table, "\n".join(rows + [more]))
                self.refused(NoText(len(rows)), read_table, "\n".join(rows + [more, more]))
            for at in range(len(rows)):
                self.refused(NoText(at), read_table, "\n".join(rows[:at] + [""] + rows[at:]))

    def test_rows_spoilt_at_one_place(self):
        rng = random.Random(1)
        for table in (exchange(1), summed(2), summed(3), LONG):
            rows = show_table(table).split("\n")
            marks = table.marks()
            for at in range(1, len(rows)):
                words = rows[at].split(" ")
                other = rng.choice(marks + ["other"])
                for spoilt in (words[:-1], words + ["a"], words[1:], ["pairs"] + words[1:], ["Pair"] + words[1:],
                               words[:3] + ["qq"] + words[4:], words[:4] + ["qq"], words[:4] + [""], [""] + words,
                               words + [""], words[:2] + [""] + words[2:], words[:4] + [words[4] + " "],
                               words[:4] + [words[4].upper()], [words[0], "qq"] + words[2:],
                               words[:2] + [other if other != words[2] else "qq"] + words[3:]):
                    text = "\n".join(rows[:at] + [" ".join(spoilt)] + rows[at + 1:])
                    self.refused(NoText(at), read_table, text)
                    # What is wrong behind it doesn't matter.
                    self.refused(NoText(at), read_table, text + "\n\nq")
            for at in range(2, len(rows)):
                moved = rows[:at - 1] + [rows[at], rows[at - 1]] + rows[at + 1:]
                self.refused(NoText(at - 1), read_table, "\n".join(moved))
                self.refused(NoText(at), read_table, "\n".join(rows[:at] + rows[at - 1:]))
                self.refused(NoText(at), read_table, "\n".join(rows[:at] + rows[at + 1:]))

    def test_other_goals_are_another_table_s(self):
        self.assertEqual(read_table("marks b a\npair b b b b\npair b a a a\npair a b b b\npair a a a a"),
                         Table(["b", "a"], [[("b", "b"), ("a", "a")], [("b", "b"), ("a", "a")]]))

    def test_of_anything(self):
        for thing in anything():
            self.refused(NoText(0), read_table, thing)
        self.refused(NoText(0), read_table, [show_table(exchange(1))])
        self.refused(NoText(0), read_table, show_table(exchange(1)).split("\n"))
        self.refused(NoText(0), read_table, show_row(("a", "b")))
        self.refused(NoText(0), read_table, show_word((0, 1)))
        self.refused(NoText(1), read_table, "marks a\npair a a a a\r")
        self.refused(NoText(1), read_table, "marks a\n\rpair a a a a")


class Rows(Refusing):
    def test_there_and_back(self):
        rng = random.Random(2)
        for table in some_tables():
            for places in (1, 2, 59, 60):
                row = tuple(rng.choice(table.marks()) for _ in range(places))
                told = read_row(text=show_row(row), table=table)
                self.assertEqual(told, row)
                self.assertIsInstance(told, tuple)

    def test_others(self):
        for text in ("", " ", "a ", " a", "a  b", "a b ", "a\nb", "a b\n", "\na", "c", "a c", "A", "a,b", "word",
                     "a " * 60 + "a", "marks a b", "row a", "a\tb"):
            self.refused(NoText(0), read_row, exchange(2), text)
        for thing in anything():
            if repr(thing) not in ("'a'", "'b'", "'a b'"):
                self.refused(NoText(0), read_row, exchange(2), thing)
        self.assertEqual(read_row(exchange(2), "a"), ("a",))


class Words(Refusing):
    def test_there_and_back(self):
        for word in ((), (0,), (58,), (0, 1, 10, 58, 0), (9,) * 2000):
            told = read_word(text=show_word(word))
            self.assertEqual(told, word)
            self.assertIsInstance(told, tuple)

    def test_the_edges(self):
        self.assertEqual(read_word("word 58"), (58,))
        self.refused(NoText(0), read_word, "word 59")
        self.refused(NoText(0), read_word, "word" + " 7" * 2001)
        self.refused(NoText(0), read_word, "word 0 59 0")

    def test_others(self):
        for text in ("", " ", "word ", " word", "word  0", "word 0 ", "word 00", "word 01", "word 007", "word -1",
                     "word +1", "word 1.0", "word a", "word 0\n", "word\n", "word\n0", "Word", "words", "0", "0 1",
                     "word 1_0", "word 0x1", "word \u0661", "word \u00b2", "word 0,1", "word 0\t1", "word " + "1" * 5000,
                     "word 1 2 3 4 5 60", "a", "word word"):
            self.refused(NoText(0), read_word, text)
        for thing in anything():
            self.refused(NoText(0), read_word, thing)
        self.refused(NoText(0), read_word, ["word"])
        self.refused(NoText(0), read_word, ("word", 0))


if __name__ == "__main__":
    unittest.main()

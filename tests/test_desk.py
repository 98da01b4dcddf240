import unittest

from passmarks.desk import Desk
from passmarks.errors import (Full, Hidden, Needed, NoAsk, NoMark, NoName, NoPlace, NoRow, NotTwice, NoWord, Taken,
                              Unfit, Unseen)
from passmarks.tables import Table
from passmarks.yard import Yard
from passmarks.yardtexts import show_yard
from tests.things import Refusing, a_yard, anything, ringed

TABLE = "table t\nmarks a b\npair a a a a\npair a b b a\npair b a a b\npair b b b b"
TELLING = "table u\nmarks b a\npair b b a b\npair b a b b\npair a b b a\npair a a a a"


def desk_with(*rows):
    desk = Desk()
    for row in (TABLE, "row r t a ? b") + rows:
        assert desk.say(row) == "ok", row
    return desk


class Deeds(Refusing):
    def test_each_kind(self):
        desk = Desk()
        for row in (TABLE, "row r t a ? b", "pass r 0", "word r 1 0", "carry r a", "look r 1 b", "tell r 1 b",
                    "twin r s", TABLE.replace("table", "change"), "drop s"):
            self.assertEqual(desk.say(row), "ok")
        self.assertEqual(desk.say("text"), "\n".join([
            TABLE, "row r t a ? b", "pass r 0", "word r 1 0", "carry r a", "look r 1 b", "tell r 1 b", "twin r s",
            TABLE.replace("table", "change"), "drop s"]))
        self.assertEqual(desk.say(row="names"), "t r")

    def test_refused_as_in_a_yard(self):
        desk = desk_with("row s t b", TELLING, "row o u b")
        before = desk.say("text")
        for row, error in (
                (TABLE, Taken("t")), ("row r t a", Taken("r")), ("row x q a", NoName("q")), ("row x t", NoRow(-1)),
                ("row x t a c", NoRow(1)), ("row x t ? ? ? ? a ?", NoRow(5)), ("row x t" + " a" * 61, NoRow(-1)),
                ("pass r 2", NoWord(0)), ("pass r " + "9" * 60, NoWord(0)), ("word r", NoWord(-1)),
                ("word r 0 1 2", NoWord(2)), ("word r" + " 0" * 61, Full(60)), ("carry r c", NoMark("c")),
                ("look r 3 a", NoPlace(3)), ("look r 0 c", NoMark("c")), ("look r 0 b", Unseen("r")),
                ("tell r 0 a", NoPlace(0)), ("twin q x", NoName("q")), ("drop t", Needed("t")), ("drop q", NoName("q")),
                (TELLING.replace("table u", "change t"), Unfit("t")), ("pass q 0", NoName("q"))):
            self.refused(error, desk.say, row)
        self.assertEqual(desk.say("text"), before)

    def test_taking_back(self):
        desk = desk_with("pass r 0")
        self.assertEqual([desk.say("undo"), desk.say("gone r"), desk.say("redo"), desk.say("gone r"),
                          desk.say("redo")], ["ok", "0", "ok", "1", "none"])
        self.assertEqual([desk.say("undo") for _ in range(4)], ["ok", "ok", "ok", "none"])
        self.assertEqual(desk.say("names"), "none")


class Asks(Refusing):
    def test_by_hand(self):
        desk = desk_with("row s t b b a", "row l t b a a", "row x t a", "pass s 1")
        self.assertEqual(desk.say("names"), "t r s l x")
        self.assertEqual(desk.say("now r"), "a ? b")
        self.assertEqual(desk.say("now s"), "b a b")
        self.assertEqual(desk.say("gone s"), "1")
        self.assertEqual(desk.say("gone r"), "0")
        self.assertEqual(desk.say("many r"), "2")
        self.assertEqual(desk.say("can r 1"), "a b")
        self.assertEqual(desk.say("can r 2"), "b")
        self.assertEqual(desk.say("plain s"), "b a b")
        self.assertEqual(desk.say("apart s l"), "never")
        self.assertEqual(desk.say("apart s s"), "0")
        self.assertEqual(desk.say("apart s x"), "never")
        desk.say("row n t a b b")
        self.assertEqual(desk.say("apart s n"), "1")

    def test_by_tables_that_change_marks(self):
        desk = Desk()
        desk.say("table t\nmarks a b\npair a a b b\npair a b a b\npair b a b a\npair b b a a")
        desk.say("row r t a a b")
        self.assertEqual(desk.say("now r"), "a a b")
        self.assertEqual(desk.say("plain r"), "a b b")

    def test_an_empty_yard(self):
        self.assertEqual([Desk().say(row) for row in ("names", "text", "undo", "redo")], ["none"] * 4)

    def test_refused_as_in_a_yard(self):
        desk = desk_with(TELLING, "row o u b", "row s t b", "row k t a")
        for row, error in (
                ("now q", NoName("q")), ("gone t", NoName("t")), ("many q", NoName("q")), ("can q 9", NoName("q")),
                ("can r 3", NoPlace(3)), ("can r " + "9" * 60, NoPlace(10 ** 60 - 1)), ("plain r", Hidden("r")),
                ("plain t", NoName("t")), ("apart r s", Hidden("r")), ("apart s r", Hidden("r")),
                ("apart s o", Unfit("o")), ("apart q z", NoName("q")), ("apart r z", NoName("z"))):
            self.refused(error, desk.say, row)
        desk = Desk()
        desk.say("table t\nmarks a b\npair a a a b\npair a b b b\npair b a a a\npair b b b a")
        desk.say("row r t a")
        table = Table(["a", "b"], [[("a", "b"), ("b", "b")], [("a", "a"), ("b", "a")]])
        self.refused(NotTwice(("a", "a")), desk.say, "apart r r")
        self.assertEqual(desk.yard().table("t"), table)


class NoAsks(Refusing):
    def test_of_anything(self):
        desk = desk_with()
        for thing in anything():
            self.refused(NoAsk(thing), desk.say, thing)
        for thing in (["names"], ("undo",), ("pass", "r", 0), [["names"]]):
            self.refused(NoAsk(thing), desk.say, thing)

    def test_rows_that_are_none(self):
        desk = desk_with()
        before = desk.say("text")
        for row in ("", " ", "names ", " names", "names r", "Names", "undo 1", "undo ", "redo r", "text r", "now",
                    "now ", "now r ", "now  r", "now R", "now r s", "now r 0", "gone", "gone 0", "many", "many r 1",
                    "can r", "can r ", "can r 01", "can r 00", "can r -1", "can r a", "can r 0 1", "can 0 r",
                    "can r " + "9" * 61, "plain", "plain r r", "apart r", "apart r s t", "apart r S", "pass r",
                    "pass r ", "pass r 0 0", "pass r 00", "pass r -1", "pass r " + "9" * 61, "pass R 0", "word",
                    "word r ", "word r 0 ", "word r 01", "word r a", "row x t ", "row x t a ", "row x", "row", "row x t A",
                    "row x t a  b", "carry r", "carry r ?", "carry r A", "carry r a b", "look r a", "look r 0",
                    "look r 0 ?", "look r 00 a", "tell r 1", "tell r 1 ?", "twin r", "twin r s q", "drop", "drop r s",
                    "names\n", "\nnames", "names\nnames", "pass r 0\n", "pass r 0\npass r 0", "undo\n", "ok", "none",
                    "now r\n", "do", "yard", "table", "table x", "table x\n", "table x\nmarks a",
                    "table x\nmarks a\npair a a a b", "table x\nmarks a\npair a a a a\n",
                    "table x\nmarks a\npair a a a a\nnames", "table X\nmarks a\npair a a a a",
                    "table x y\nmarks a\npair a a a a", "table\nmarks a\npair a a a a", "change t",
                    "change t\nmarks a\npair a a a a\npair a a a a", "marks a\npair a a a a", "names\tr", "?", "now ?",
                    "abcdefghi", "look abcdefghi 0 a", TABLE + "\n" + TABLE, TABLE + " "):
            self.refused(NoAsk(row), desk.say, row)
        self.assertEqual(desk.say("text"), before)

    def test_what_is_kept_is_a_copy(self):
        desk, yard, handed = desk_with(), a_yard(), ["names"]
        for thing, change in ((handed, lambda: handed.append("now")), (yard, lambda: yard.undo()),
                              ([yard], lambda: yard.undo()), (desk, lambda: desk.say("undo"))):
            try:
                desk.say(thing)
            except NoAsk as refused:
                change()
                self.assertFalse(refused.row == thing)
                self.assertIs(refused.row.__class__, thing.__class__)


class Yards(Refusing):
    def test_of_none(self):
        self.assertTrue(Desk().yard() == Yard())
        self.assertTrue(Desk(None).yard() == Yard())
        self.assertTrue(Desk(yard=None).yard() == Yard())

    def test_what_is_handed_in_is_copied(self):
        yard = a_yard()
        desk = Desk(yard=yard)
        self.assertTrue(desk.yard() == yard)
        yard.do(("drop", "r"))
        self.assertEqual(desk.say("names"), "t r")
        desk.say("pass r 0")
        self.assertEqual(yard.names(), ["t"])

    def test_what_is_told_is_a_copy(self):
        desk = desk_with("pass r 0")
        told = desk.yard()
        self.assertIsInstance(told, Yard)
        self.assertEqual(show_yard(told), desk.say("text"))
        told.undo()
        told.do(("drop", "r"))
        self.assertEqual(desk.say("gone r"), "1")
        desk.say("undo")
        self.assertEqual(told.names(), ["t"])

    def test_with_what_was_taken_back(self):
        desk = desk_with("pass r 0")
        desk.say("undo")
        told = desk.yard()
        self.assertIs(told.redo(), True)
        self.assertEqual(told.gone("r"), 1)
        self.assertEqual(desk.say("gone r"), "0")
        again = Desk(desk.yard())
        self.assertEqual([again.say("redo"), again.say("gone r"), again.say("redo")], ["ok", "1", "none"])
        self.assertEqual([desk.say("redo"), desk.say("redo")], ["ok", "none"])

    def test_with_what_was_done_together(self):
        yard = a_yard()
        yard.run([("pass", "r", 0), ("pass", "r", 1)])
        yard.run([])
        desk = Desk(yard)
        self.assertEqual([desk.say("undo"), desk.say("gone r"), desk.say("undo"), desk.say("gone r")],
                         ["ok", "3", "ok", "1"])
        told = desk.yard()
        self.assertIs(told.redo(), True)
        self.assertEqual(told.gone("r"), 3)
        self.assertEqual([desk.say("undo"), desk.say("undo"), desk.say("undo")], ["ok", "ok", "none"])

    def test_likeness(self):
        self.assertTrue(Desk() == Desk())
        self.assertTrue(Desk(a_yard()) == Desk(a_yard()))
        self.assertFalse(Desk(a_yard()) == Desk())
        self.assertFalse(Desk() == Yard())
        self.assertFalse(Yard() == Desk())
        one, other = desk_with(), desk_with()
        one.say("pass r 0")
        self.assertFalse(one == other)
        other.say("pass r 0")
        self.assertTrue(one == other)

    def test_gone_by_a_table_that_is_not_gentle(self):
        yard = Yard()
        yard.run([("table", "t", ringed(3, 1, 1)), ("row", "r", "t", ("a", "b", "c")), ("carry", "r", "a")])
        desk = Desk(yard)
        self.assertEqual(desk.say("now r"), " ".join(yard.now("r")))
        self.assertEqual(desk.say("gone r"), "3")


if __name__ == "__main__":
    unittest.main()

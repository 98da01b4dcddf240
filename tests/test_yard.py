import copy
import unittest
from itertools import product

from passmarks.errors import (Full, Hidden, Needed, NoDeed, NoMark, NoName, NoPlace, NoRow, NotSided, NotThree,
                              NotTwice, NoWord, Taken, Unfit, Unseen)
from passmarks.faults import sided_fault, three_fault, twice_fault
from passmarks.tables import Table
from passmarks.yard import Yard
from tests.things import (Refusing, a_yard, anything, crossing, exchange, mirrored, remarked, ringed, second_given,
                          standing, summed)

ROW_ASKS = ("table_of", "holes", "hidden", "gone", "looks", "order", "many", "beginnings", "boxes", "now", "plain")


def names(many):
    return [one + other for one, other in product("abcdefgh", "abc")][:many]


def yard_with(*deeds):
    yard = Yard()
    for deed in deeds:
        yard.do(deed)
    return yard


def simple(*deeds):
    """A yard with a table of a, b and c that exchange, a row with two hidden places, and further deeds."""
    return yard_with(("table", "t", exchange(3)), ("row", "r", "t", ("a", None, "b", None)), *deeds)


def told(yard):
    """All that is told of a yard."""
    found = {"names": yard.names(), "deeds": yard.deeds()}
    for name in yard.names():
        for ask in ROW_ASKS + ("table",):
            try:
                found[name, ask] = getattr(yard, ask)(name)
            except (NoName, Hidden) as error:
                found[name, ask] = error.__class__
    return found


class YardCase(Refusing):
    def refuses(self, yard, error, deed):
        """A deed is refused, alone and behind others in a run, and changes nothing."""
        before = told(yard)
        self.refused(error, yard.do, deed)
        self.refused(error, yard.run, [deed])
        self.refused(error, yard.run, [deed, None])
        self.assertEqual(told(yard), before)


class Told(YardCase):
    def test_an_empty_yard(self):
        yard = Yard()
        self.assertEqual((yard.names(), yard.deeds(), yard.undo(), yard.redo()), ([], [], False, False))

    def test_by_hand(self):
        yard = simple(("pass", "r", 0), ("look", "r", 0, "c"), ("word", "r", [1, 2]), ("carry", "r", "b"),
                      ("look", "r", 1, "b"))
        self.assertEqual(yard.names(), ["t", "r"])
        self.assertEqual(yard.table("t"), exchange(3))
        self.assertEqual(yard.table_of("r"), "t")
        self.assertEqual(yard.holes("r"), ("a", None, "b", None))
        self.assertEqual(yard.hidden("r"), [1, 3])
        self.assertEqual(yard.gone("r"), 7)
        self.assertEqual(yard.looks("r"), [(1, 0, "c"), (7, 1, "b")])
        self.assertEqual(yard.order("r"), (1, 2, 3, 0))
        self.assertEqual(yard.many("r"), 3)
        self.assertEqual(yard.beginnings("r"), [("a", "c", "b", mark) for mark in "abc"])
        self.assertEqual(yard.boxes("r"), [("c", None)])

    def test_what_stands_now(self):
        yard = simple(("look", "r", 1, "c"), ("pass", "r", 2))
        self.assertEqual(yard.now("r"), ("a", "c", None, "b"))
        self.assertEqual(yard.can("r", 2), ("a", "b", "c"))
        self.assertEqual(yard.can("r", 3), ("b",))
        for place in (-1, 4, True, None, "a", 10 ** 60):
            self.refused(NoPlace(place), yard.can, "r", place)
        for thing in anything():
            if repr(thing) not in ("0", "1", "2"):
                self.refused(NoPlace(thing), yard.can, "r", thing)

    def test_marks_in_the_tables_order(self):
        yard = yard_with(("table", "t", remarked(exchange(3), ["c", "a", "b"])), ("row", "r", "t", (None, None)),
                         ("look", "r", 0, "b"))
        self.assertEqual(yard.can("r", 1), ("c", "a", "b"))
        self.assertEqual(yard.beginnings("r"), [("b", "c"), ("b", "a"), ("b", "b")])

    def test_no_name_of_anything(self):
        yard = simple()
        for thing in anything() + ["rr", "R", "", "q"]:
            for ask in ROW_ASKS + ("table",):
                self.refused(NoName(thing), getattr(yard, ask), thing)
            self.refused(NoName(thing), yard.can, thing, None)
            self.refused(NoName(thing), yard.apart, thing, thing)
            self.refused(NoName(thing), yard.apart, "r", thing)
            self.refused(NoName(thing), yard.apart, thing, "r")
        self.refused(NoName("r"), yard.table, "r")
        for ask in ROW_ASKS:
            self.refused(NoName("t"), getattr(yard, ask), "t")
        self.refused(NoName("t"), yard.can, "t", 0)
        self.refused(NoName("t"), yard.apart, "t", "q")
        self.refused(NoName("q"), yard.apart, "r", "q")

    def test_known_rows(self):
        yard = yard_with(("table", "t", mirrored()), ("row", "r", "t", ("a", "b", "c")), ("pass", "r", 0),
                         ("carry", "r", "c"))
        row = yard.now("r")
        self.assertNotIn(None, row)
        self.assertEqual(yard.beginnings("r"), [("a", "b", "c")])
        self.assertEqual(yard.boxes("r"), [()])
        # Each comes out by passing those behind it, the third mark of two unlike ones.
        self.assertEqual(yard.plain("r")[2], row[2])

    def test_hidden_rows(self):
        yard = simple(("row", "s", "t", ("a", "a", "b", "b")), ("row", "n", "t", (None,)), ("look", "r", 1, "a"),
                      ("look", "r", 3, "a"))
        # Just one beginning is left, but the marks were looked at and not told.
        self.assertEqual(yard.now("r"), ("a", "a", "b", "a"))
        self.refused(Hidden("r"), yard.plain, "r")
        self.refused(Hidden("r"), yard.apart, "r", "s")
        self.refused(Hidden("r"), yard.apart, "s", "r")
        self.refused(Hidden("n"), yard.apart, "n", "r")
        self.refused(NoName("q"), yard.apart, "r", "q")
        self.refused(NoName("t"), yard.apart, "r", "t")
        yard.do(("tell", "r", 1, "a"))
        self.refused(Hidden("r"), yard.plain, "r")
        yard.do(("tell", "r", 3, "a"))
        self.assertEqual(yard.plain("r"), ("a", "a", "b", "a"))

    def test_apart(self):
        yard = simple(("row", "s", "t", ("b", "a", "a", "c")), ("row", "n", "t", ("c", "a", "a", "b")),
                      ("row", "x", "t", ("a", "a", "b")), ("table", "u", exchange(3)),
                      ("row", "o", "u", ("b", "a", "a", "c")), ("row", "h", "u", (None,)))
        self.assertEqual(yard.apart("s", "n"), 5)
        self.assertEqual(yard.apart("s", "s"), 0)
        self.assertIsNone(yard.apart("s", "x"))
        self.refused(Unfit("o"), yard.apart, "s", "o")
        self.refused(Unfit("s"), yard.apart, "o", "s")
        self.refused(Hidden("h"), yard.apart, "s", "h")
        yard.do(("pass", "s", 0))
        self.assertEqual(yard.apart("s", "n"), 4)
        self.assertEqual(yard.apart(other="n", one="s"), 4)

    def test_apart_by_tables_that_are_not_gentle(self):
        for table, error in ((summed(2), NotThree(three_fault(summed(2)))),
                             (standing(2), NotSided(sided_fault(standing(2)))),
                             (ringed(2, 1, 0), NotTwice(twice_fault(ringed(2, 1, 0))))):
            yard = yard_with(("table", "t", table), ("table", "u", table), ("row", "r", "t", ("a", "b")),
                             ("row", "s", "t", ("b",)), ("row", "o", "u", ("b",)), ("row", "h", "t", (None,)))
            self.refused(error, yard.apart, "r", "s")
            self.refused(error, yard.apart, "r", "r")
            self.refused(Unfit("o"), yard.apart, "r", "o")
            self.refused(Hidden("h"), yard.apart, "r", "h")

    def test_just_these_names(self):
        yard = Yard()
        yard.do(deed=("table", "t", exchange(3)))
        yard.run(deeds=[("row", "r", "t", ["a", None])])
        self.assertEqual(yard.can(place=1, name="r"), ("a", "b", "c"))
        for ask in ROW_ASKS[:-1]:
            self.assertEqual(getattr(yard, ask)(name="r"), getattr(yard, ask)("r"))
        self.assertEqual(yard.table(name="t"), exchange(3))


class Deeds(YardCase):
    def test_no_deed_of_anything(self):
        yard = simple()
        for thing in anything():
            self.refuses(yard, NoDeed(0), thing)
            self.refuses(yard, NoDeed(0), (thing,))
            self.refuses(yard, NoDeed(0), ("pass", "r", thing, 0))
            for deed in (("table", "x", exchange(1)), ("row", "x", "t", ("a",)), ("pass", "r", 0), ("word", "r", (0,)),
                         ("carry", "r", "a"), ("look", "r", 0, "a"), ("tell", "r", 1, "a"), ("twin", "r", "x"),
                         ("change", "t", exchange(3)), ("drop", "r")):
                self.refuses(yard, NoDeed(0), deed + (thing,))
                self.refuses(yard, NoDeed(0), (thing,) + deed[1:])
                self.refuses(yard, NoDeed(0), list(deed))
                self.refuses(yard, NoDeed(0), deed[:-1])
                if not (isinstance(thing, str) and thing in ("a", "b", "ab", "z", "marks", "abcdefgh")):
                    self.refuses(yard, NoDeed(0), (deed[0], thing) + deed[2:])

    def test_the_kinds_of_what_stands_in_deeds(self):
        yard = simple()
        for deed in (("table", "x", "t"), ("table", "x", None), ("table", "x", [["a"], [[("a", "a")]]]),
                     ("row", "x", "t", "ab"), ("row", "x", "t", None), ("row", "x", "t", ("A",)),
                     ("row", "x", "t", ("a", 0)), ("row", "x", "t", ("a", "")), ("row", "x", "t", {"a": 1}),
                     ("row", "x", 0, ("a",)), ("pass", "r", True), ("pass", "r", "0"), ("pass", "r", None),
                     ("pass", "r", (0,)), ("word", "r", 0), ("word", "r", ("0",)), ("word", "r", (0, False)),
                     ("word", "r", (0, None)), ("carry", "r", "A"), ("carry", "r", None), ("look", "r", "0", "a"),
                     ("look", "r", 0, "Q"), ("look", "r", 0, None), ("look", "r", True, "a"),
                     ("tell", "r", 1, "abcdefghi"), ("tell", "r", None, "a"), ("twin", "r", "X"), ("change", "t", "t"),
                     ("drop",), ("Drop", "r"), ("undo",), ("row", "x", "t", ("a", exchange(1)))):
            self.refuses(yard, NoDeed(0), deed)

    def test_no_deed_goes_ahead_of_all_else(self):
        yard = full_yard()
        self.refuses(yard, NoDeed(0), ("pass", "zz", None))
        self.refuses(yard, NoDeed(0), ("row", "aa", "q", ("A",)))
        self.refuses(yard, NoDeed(0), None)

    def test_new_names(self):
        yard = simple()
        self.refuses(yard, Taken("t"), ("table", "t", exchange(1)))
        self.refuses(yard, Taken("r"), ("table", "r", exchange(1)))
        self.refuses(yard, Taken("r"), ("row", "r", "q", ()))
        self.refuses(yard, Taken("t"), ("row", "t", "t", ("a",)))
        self.refuses(yard, Taken("r"), ("twin", "r", "r"))
        self.refuses(yard, Taken("t"), ("twin", "q", "t"))
        self.refuses(yard, NoName("q"), ("row", "x", "q", ()))
        self.refuses(yard, NoName("r"), ("row", "x", "r", ("a",)))
        self.refuses(yard, NoName("x"), ("row", "x", "x", ("a",)))
        self.refuses(yard, NoName("t"), ("twin", "t", "x"))
        self.refuses(yard, NoName("q"), ("twin", "q", "x"))

    def test_twenty_names_and_one_more(self):
        yard = simple(*[("row", name, "t", ("a",)) for name in names(17)])
        yard.do(("table", "u", exchange(1)))
        self.assertEqual(len(yard.names()), 20)
        for deed in (("table", "x", exchange(1)), ("table", "t", exchange(1)), ("row", "x", "t", ("a",)),
                     ("row", "r", "q", ()), ("twin", "r", "x"), ("twin", "q", "t")):
            self.refuses(yard, Full(20), deed)
        yard.do(("pass", "r", 0))
        yard.do(("change", "t", summed(3)))
        yard.do(("drop", "u"))
        yard.do(("twin", "r", "x"))
        self.refuses(yard, Full(20), ("twin", "r", "y"))

    def test_names_that_are_not_there(self):
        yard = simple()
        for deed in (("pass", "t", -1), ("word", "t", ()), ("carry", "t", "q"), ("look", "t", 9, "q"),
                     ("tell", "t", 9, "q")):
            self.refuses(yard, NoName("t"), deed)
            self.refuses(yard, NoName("q"), (deed[0], "q") + deed[2:])
        self.refuses(yard, NoName("r"), ("change", "r", exchange(3)))
        self.refuses(yard, NoName("q"), ("change", "q", exchange(1)))
        self.refuses(yard, NoName("q"), ("drop", "q"))

    def test_rows(self):
        yard = simple()
        for holes, at in (((), -1), ([], -1), (("a",) * 61, -1), (("a", "q"), 1), ((None,) * 5, 4),
                          ((None,) * 4 + ("a", None), 5), (("a", "d", "q"), 1)):
            self.refuses(yard, NoRow(at), ("row", "x", "t", holes))
        yard.do(("row", "x", "t", [None, "a"] * 4 + ["b"] * 52))
        self.assertEqual(len(yard.holes("x")), 60)
        self.assertEqual(yard.many("x"), 81)
        yard.do(("row", "one", "t", (None,)))
        self.assertEqual(yard.order("one"), (0,))
        self.refuses(yard, NoWord(0), ("pass", "one", 0))

    def test_passes_and_words(self):
        yard = simple(("row", "k", "t", ("a",) * 60))
        for place in (-1, 3, 4, 10 ** 60, -(10 ** 60)):
            self.refuses(yard, NoWord(0), ("pass", "r", place))
            self.refuses(yard, NoWord(2), ("word", "r", (0, 1, place, -1)))
        self.refuses(yard, NoWord(-1), ("word", "r", ()))
        self.refuses(yard, NoWord(-1), ("word", "r", []))
        yard.do(("word", "r", [0, 2] * 29))
        yard.do(("pass", "r", 1))
        self.assertEqual(yard.gone("r"), 59)
        # The first that is no pass goes ahead of too many.
        self.refuses(yard, NoWord(1), ("word", "r", (0, 3)))
        self.refuses(yard, Full(60), ("word", "r", (0, 2)))
        yard.do(("pass", "r", 2))
        self.assertEqual(yard.gone("r"), 60)
        self.refuses(yard, Full(60), ("pass", "r", 0))
        self.refuses(yard, NoWord(0), ("pass", "r", 3))
        self.refuses(yard, Full(60), ("word", "k", (0,) * 61))
        yard.do(("word", "k", (58,) * 60))
        self.assertEqual(yard.gone("k"), 60)

    def test_carriers(self):
        yard = simple(("row", "k", "t", ("a",) * 60), ("row", "l", "t", ("a",) * 59))
        self.refuses(yard, NoMark("d"), ("carry", "r", "d"))
        yard.do(("carry", "k", "b"))
        self.assertEqual((yard.gone("k"), yard.now("k")), (60, ("a",) * 60))
        self.refuses(yard, Full(60), ("carry", "k", "b"))
        self.refuses(yard, Full(60), ("pass", "k", 0))
        self.refuses(yard, NoMark("d"), ("carry", "k", "d"))
        yard.do(("pass", "l", 0))
        yard.do(("carry", "l", "b"))
        self.assertEqual(yard.gone("l"), 60)
        yard.do(("pass", "r", 0))
        for _ in range(14):
            yard.do(("carry", "r", "c"))
        self.assertEqual(yard.gone("r"), 57)
        self.refuses(yard, Full(60), ("carry", "r", "c"))
        yard.do(("word", "r", (0, 0, 0)))
        self.assertEqual(yard.order("r"), (0, 1, 2, 3))

    def test_looks(self):
        yard = simple()
        for place in (-1, 4, 10 ** 60):
            self.refuses(yard, NoPlace(place), ("look", "r", place, "q"))
        self.refuses(yard, NoMark("q"), ("look", "r", 0, "q"))
        self.refuses(yard, Unseen("r"), ("look", "r", 0, "b"))
        for at in range(8):
            self.refuses(yard, Unseen("r"), ("look", "r", 2, "a"))
            yard.do(("look", "r", 1, "c"))
            self.assertEqual(len(yard.looks("r")), at + 1)
        for mark in "cab":
            self.refuses(yard, Full(8), ("look", "r", 1, mark))
        self.refuses(yard, NoMark("q"), ("look", "r", 0, "q"))
        self.refuses(yard, NoPlace(4), ("look", "r", 4, "a"))

    def test_tellings(self):
        yard = simple(("look", "r", 1, "c"), ("pass", "r", 0))
        for place in (0, 2, 4, -1, 10 ** 60):
            self.refuses(yard, NoPlace(place), ("tell", "r", place, "q"))
        self.refuses(yard, NoMark("q"), ("tell", "r", 1, "q"))
        self.refuses(yard, Unseen("r"), ("tell", "r", 1, "a"))
        yard.do(("tell", "r", 1, "c"))
        self.assertEqual((yard.holes("r"), yard.hidden("r")), (("a", "c", "b", None), [3]))
        self.assertEqual((yard.now("r"), yard.looks("r")), (("c", "a", "b", None), [(0, 1, "c")]))
        self.refuses(yard, NoPlace(1), ("tell", "r", 1, "c"))
        yard.do(("tell", "r", 3, "a"))
        self.assertEqual(yard.boxes("r"), [()])

    def test_twins(self):
        yard = simple(("look", "r", 1, "c"), ("pass", "r", 0), ("twin", "r", "s"))
        self.assertEqual(yard.names(), ["t", "r", "s"])
        for ask in ROW_ASKS[:-1]:
            self.assertEqual(getattr(yard, ask)("s"), getattr(yard, ask)("r"))
        yard.do(("pass", "s", 1))
        yard.do(("tell", "r", 3, "b"))
        self.assertEqual((yard.order("r"), yard.order("s")), ((1, 0, 2, 3), (1, 2, 0, 3)))
        self.assertEqual((yard.hidden("r"), yard.hidden("s")), ([1], [1, 3]))
        yard.do(("look", "s", 3, "a"))
        self.assertEqual((yard.looks("r"), yard.looks("s")), ([(0, 1, "c")], [(0, 1, "c"), (2, 3, "a")]))
        yard.do(("drop", "r"))
        self.assertEqual(yard.names(), ["t", "s"])

    def test_changes(self):
        yard = simple(("look", "r", 0, "a"), ("carry", "r", "b"), ("twin", "r", "s"), ("look", "s", 1, "a"),
                      ("look", "r", 0, "a"), ("table", "u", exchange(1)), ("row", "n", "u", ("a", "a")))
        for table in (exchange(2), exchange(4), remarked(exchange(3), ["b", "a", "c"]),
                      Table(["a", "b", "d"], [[("a", "a")] * 3] * 3)):
            self.refuses(yard, Unfit("t"), ("change", "t", table))
        # By this one the carrier leaves b at the first place, and each mark at the next one.
        self.refuses(yard, Unseen("r"), ("change", "t", standing(3)))
        # By this one neither row could look so: r came first.
        all_c = Table(["a", "b", "c"], [[("c", "c")] * 3] * 3)
        self.refuses(yard, Unseen("r"), ("change", "t", all_c))
        yard.do(("drop", "r"))
        self.refuses(yard, Unseen("s"), ("change", "t", all_c))
        yard.do(("change", "t", standing(3)))
        self.assertEqual(yard.names(), ["t", "s", "u", "n"])
        self.assertEqual(yard.table("t"), standing(3))
        self.assertEqual(yard.beginnings("s"), [("a", one, "b", other) for one in "abc" for other in "abc"])
        self.assertEqual((yard.gone("s"), yard.looks("s")), (4, [(0, 0, "a"), (4, 1, "a")]))
        self.assertEqual(yard.now("n"), ("a", "a"))

    def test_a_changed_table_goes_from_the_beginning(self):
        yard = yard_with(("table", "t", exchange(3)), ("row", "r", "t", ("a", "b", "c")), ("word", "r", (0, 1)),
                         ("change", "t", mirrored()))
        # a passes b, which becomes c, and then c, which becomes b.
        self.assertEqual(yard.now("r"), ("c", "b", "a"))

    def test_drops(self):
        yard = simple(("table", "u", exchange(3)), ("row", "s", "u", ("a",)), ("twin", "r", "n"))
        self.refuses(yard, Needed("t"), ("drop", "t"))
        yard.do(("drop", "r"))
        self.refuses(yard, Needed("t"), ("drop", "t"))
        yard.do(("drop", "n"))
        yard.do(("drop", "t"))
        self.assertEqual(yard.names(), ["u", "s"])
        self.refuses(yard, NoName("t"), ("drop", "t"))
        yard.do(("table", "r", crossing()))
        yard.do(("row", "t", "r", ("c",)))
        self.assertEqual(yard.names(), ["u", "s", "r", "t"])

    def test_a_row_dropped_and_put_again(self):
        yard = simple(("pass", "r", 0), ("look", "r", 0, "c"), ("drop", "r"), ("row", "s", "t", ("b",)),
                      ("row", "r", "t", ("a", None)))
        self.assertEqual(yard.names(), ["t", "s", "r"])
        self.assertEqual((yard.gone("r"), yard.looks("r"), yard.many("r")), (0, [], 3))


def full_yard():
    """A yard with two hundred deeds."""
    yard = simple()
    for _ in range(99):
        yard.run([("twin", "r", "s"), ("drop", "s")])
    return yard


class Runs(YardCase):
    def test_all_or_none(self):
        yard = simple()
        before = told(yard)
        self.refused(NoWord(0), yard.run, [("pass", "r", 0), ("look", "r", 0, "c"), ("pass", "r", 7), None])
        self.assertEqual(told(yard), before)
        self.refused(NoDeed(2), yard.run, [("pass", "r", 0), ("drop", "r"), None, ("pass", "r", 0)])
        self.refused(NoName("r"), yard.run, [("pass", "r", 0), ("drop", "r"), ("pass", "r", 0), None])
        self.assertEqual(told(yard), before)
        yard.run([("pass", "r", 0), ("table", "u", exchange(1)), ("row", "s", "u", ["a"]), ("drop", "r")])
        self.assertEqual(yard.names(), ["t", "u", "s"])
        self.assertEqual(len(yard.deeds()), 6)

    def test_no_list(self):
        yard = simple()
        for thing in anything():
            if not isinstance(thing, list):
                self.refused(NoDeed(-1), yard.run, thing)
            self.refused(NoDeed(1), yard.run, [("pass", "r", 0), thing])
        self.refused(NoDeed(-1), yard.run, (("pass", "r", 0),))
        self.refused(NoDeed(-1), yard.run, ("pass", "r", 0))
        self.assertEqual(len(yard.deeds()), 2)

    def test_undone_as_one(self):
        yard = simple()
        before = told(yard)
        yard.run([("pass", "r", 0), ("pass", "r", 1)])
        after = told(yard)
        self.assertIs(yard.undo(), True)
        self.assertEqual(told(yard), before)
        self.assertIs(yard.redo(), True)
        self.assertEqual(told(yard), after)
        self.assertIs(yard.redo(), False)

    def test_a_run_of_none(self):
        yard = simple()
        before = told(yard)
        yard.undo()
        yard.run([])
        # Something was done since, even if it was nothing.
        self.assertIs(yard.redo(), False)
        self.assertEqual(yard.names(), ["t"])
        self.assertIs(yard.undo(), True)
        self.assertEqual(yard.names(), ["t"])
        self.assertIs(yard.redo(), True)
        self.assertEqual(yard.names(), ["t"])
        self.assertIs(yard.undo(), True)
        self.assertIs(yard.undo(), True)
        self.assertEqual(yard.names(), [])
        self.assertIs(yard.undo(), False)
        self.assertNotEqual(told(yard), before)

    def test_two_hundred_deeds_and_one_more(self):
        yard = full_yard()
        self.assertEqual(len(yard.deeds()), 200)
        for deed in (("pass", "r", 0), ("pass", "q", 9), ("table", "t", exchange(1)), ("drop", "t"),
                     ("row", "x", "t", ())):
            self.refuses(yard, Full(200), deed)
        yard.run([])
        self.assertIs(yard.undo(), True)
        self.assertIs(yard.undo(), True)
        self.assertEqual(len(yard.deeds()), 198)
        self.refused(Full(200), yard.run, [("pass", "r", 0)] * 3)
        self.refused(Full(200), yard.run, [("pass", "r", 0)] * 2 + [("pass", "q", 0)])
        self.refused(NoDeed(2), yard.run, [("pass", "r", 0)] * 2 + [None])
        self.refused(NoWord(0), yard.run, [("pass", "r", 0), ("pass", "r", 9), ("pass", "r", 0)])
        self.assertIs(yard.redo(), True)
        self.assertEqual(len(yard.deeds()), 200)
        yard.undo()
        yard.run([("pass", "r", 0)] * 2)
        self.assertEqual((len(yard.deeds()), yard.gone("r")), (200, 2))


class Back(YardCase):
    def test_all_is_as_it_was(self):
        yard = Yard()
        steps = [("table", "t", exchange(3)), ("row", "r", "t", ("a", None, "b", None)), ("look", "r", 1, "c"),
                 ("word", "r", (0, 1)), ("carry", "r", "a"), ("twin", "r", "s"), ("tell", "r", 3, "a"),
                 ("change", "t", exchange(3)), ("drop", "r"), ("table", "u", exchange(1)), ("drop", "u")]
        seen = [told(yard)]
        for deed in steps:
            yard.do(deed)
            seen.append(told(yard))
        for before in reversed(seen[:-1]):
            self.assertIs(yard.undo(), True)
            self.assertEqual(told(yard), before)
        self.assertIs(yard.undo(), False)
        for after in seen[1:]:
            self.assertIs(yard.redo(), True)
            self.assertEqual(told(yard), after)
        self.assertIs(yard.redo(), False)

    def test_redo_behind_something_done_or_refused(self):
        yard = simple(("pass", "r", 0))
        yard.undo()
        self.refused(NoWord(0), yard.do, ("pass", "r", 9))
        self.refused(NoDeed(-1), yard.run, None)
        self.assertIs(yard.redo(), True)
        yard.undo()
        yard.do(("pass", "r", 1))
        self.assertIs(yard.redo(), False)
        self.assertEqual(yard.order("r"), (0, 2, 1, 3))

    def test_a_mark_told_afterwards_is_as_one_told_at_first(self):
        late = simple(("carry", "r", "c"), ("pass", "r", 1), ("look", "r", 3, "b"), ("tell", "r", 1, "b"))
        early = yard_with(("table", "t", exchange(3)), ("row", "r", "t", ("a", "b", "b", None)), ("carry", "r", "c"),
                          ("pass", "r", 1), ("look", "r", 3, "b"))
        for ask in ROW_ASKS[:-1]:
            self.assertEqual(getattr(late, ask)("r"), getattr(early, ask)("r"))
        self.assertFalse(late == early)


class Likeness(YardCase):
    def test_equal_where_all_that_is_told_is(self):
        one, other = simple(("pass", "r", 0)), Yard()
        other.run([("table", "t", exchange(3)), ("row", "r", "t", ["a", None, "b", None])])
        self.assertFalse(one == other)
        other.run([("word", "r", [0])])
        # Both rows stand alike, but other deeds stand.
        self.assertFalse(one == other)
        other.undo()
        other.do(("pass", "r", 0))
        self.assertTrue(one == other)
        self.assertFalse(one != other)
        # What was taken back, and what was done together, doesn't matter.
        other.do(("pass", "r", 1))
        other.undo()
        self.assertTrue(one == other)
        self.assertTrue(Yard() == Yard())

    def test_equal_to_nothing_else(self):
        yard = simple()
        for thing in anything():
            self.assertFalse(yard == thing)
            self.assertFalse(thing == yard)
        self.assertFalse(yard == yard.deeds())
        self.assertTrue(copy.deepcopy(yard) == yard)


class Copies(YardCase):
    def test_what_is_handed_in(self):
        holes, word, deeds = ["a", None], [0], [("table", "t", exchange(2))]
        yard = Yard()
        yard.run(deeds)
        yard.do(("row", "r", "t", holes))
        yard.do(("word", "r", word))
        holes[1] = "b"
        word.append(7)
        deeds.append(None)
        self.assertEqual(yard.deeds(), [("table", "t", exchange(2)), ("row", "r", "t", ("a", None)),
                                        ("word", "r", (0,))])
        self.assertEqual((yard.holes("r"), yard.gone("r")), (("a", None), 1))
        self.assertEqual((holes, word, len(deeds)), (["a", "b"], [0, 7], 2))

    def test_told_things_changed_afterwards(self):
        yard = simple(("look", "r", 1, "c"), ("pass", "r", 0))
        before = told(yard)
        for ask in ("hidden", "looks", "beginnings", "boxes"):
            getattr(yard, ask)("r").clear()
        yard.names().clear()
        yard.deeds().clear()
        self.assertEqual(told(yard), before)

    def test_kinds(self):
        yard = a_yard()
        for ask, kind in (("holes", tuple), ("hidden", list), ("looks", list), ("order", tuple), ("beginnings", list),
                          ("boxes", list), ("now", tuple), ("many", int), ("gone", int)):
            self.assertIs(getattr(yard, ask)("r").__class__, kind)
        self.assertIs(yard.can("r", 0).__class__, tuple)
        self.assertTrue(all(isinstance(deed, tuple) for deed in yard.deeds()))
        self.assertIsNone(yard.do(("pass", "r", 0)))
        self.assertIsNone(yard.run([]))

    def test_second_given_is_no_matter_of_order(self):
        yard = yard_with(("table", "t", second_given()), ("row", "r", "t", (None, None)), ("pass", "r", 0),
                         ("look", "r", 0, "b"))
        self.assertEqual(yard.beginnings("r"), [("a", "b"), ("b", "b")])
        self.assertEqual(yard.boxes("r"), [("a", "b"), ("b", "b")])
        self.assertEqual(yard.now("r"), ("b", "b"))


if __name__ == "__main__":
    unittest.main()

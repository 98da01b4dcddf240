"""Yards and desks that go random ways, held against a plain yard, and texts held against both."""

import random
import unittest

from passmarks.desk import Desk
from passmarks.errors import Hidden, NoAsk, NoDeed, Unread
from passmarks.tables import Table
from passmarks.yard import Yard
from passmarks.yardtexts import read_yard, show_yard
from tests.plainyard import PlainYard, apart_by_hand, boxes_fit, told_of
from tests.things import (crossing, exchange, mirrored, remarked, ringed, same, second_given, standing, summed,
                          swap_unlike_first, table_of)

TABLES = [exchange(2), second_given(), swap_unlike_first(), ringed(2, 1, 1), standing(2), exchange(3), mirrored(),
          summed(3), ringed(3, 1, 2), crossing(), remarked(crossing(), ["a", "b", "c"]), exchange(1),
          table_of(["b", "a"], lambda x, y: (y, x))]
NAMES = ["t", "u", "r", "s", "row", "table", "abcdefgh"]
NOT_DEEDS = [None, (), ("pass",), ["pass", "r", 0], ("pass", "r", "0"), ("pass", "r", True), ("look", "r", 0, "A"),
             ("word", "r", 0), ("table", "t", "t"), ("jump", "r"), ("drop", "R"), ("drop", "r", "s"), 7, "undo",
             ("row", "r", "t", ("a", "")), ("row", "r", "t", "ab"), ("carry", "r", None), ([], "r")]


def outcome(call, *arguments):
    """What a call tells or is refused with."""
    try:
        return call(*arguments)
    except Exception as error:
        return error


def alike(one, other):
    return same(vars(one), vars(other)) if isinstance(one, Exception) and one.__class__ is other.__class__ \
        else same(one, other)


def some_deed(plain, rng):
    there = plain.there()
    rows = [name for name in there if not isinstance(there[name], Table)]
    tables = [name for name in there if isinstance(there[name], Table)]
    if rng.random() < 0.04:
        return rng.choice(NOT_DEEDS)
    name = rng.choice(rows if rows and rng.random() < 0.9 else NAMES)
    word = rng.choice(("pass", "word", "carry", "look", "look", "tell", "twin", "row", "row", "change", "drop",
                       "table") if tables else ("table", "table", "table", "row"))
    if word == "drop" and rng.random() < 0.8:
        word = "word"
    mark = rng.choice("aaabbbccd")
    place = rng.randrange(-1, 5) if rng.random() < 0.2 else rng.randrange(3)
    free = rng.choice(NAMES)
    if word == "table":
        return (word, free, rng.choice(TABLES))
    if word == "row":
        holes = [rng.choice(["a", "b", None, None, mark]) for _ in range(rng.randrange(1, 6))]
        return (word, free, rng.choice(tables or NAMES), rng.choice((list, tuple))(holes[rng.random() < 0.03:]))
    if word == "word":
        return (word, name, rng.choice((list, tuple))([rng.randrange(3) for _ in range(rng.choice((0, 1, 2, 3, 15, 30)))]))
    if word == "change":
        return (word, rng.choice(tables + NAMES[:1]), rng.choice(TABLES))
    if word == "drop":
        return (word, rng.choice(NAMES))
    return {"pass": (word, name, place), "carry": (word, name, mark), "look": (word, name, place, mark),
            "tell": (word, name, place, mark), "twin": (word, name, free)}[word]


def written(deed):
    """A deed's row, written by hand."""
    words = [deed[0]]
    for part in deed[1:]:
        if isinstance(part, Table):
            lines = ["marks " + " ".join(part.marks())]
            for x in part.marks():
                lines += ["pair " + " ".join((x, y) + part.passed(x, y)) for y in part.marks()]
            return " ".join(words) + "\n" + "\n".join(lines)
        words += [str(part)] if isinstance(part, (str, int)) else ["?" if one is None else str(one) for one in part]
    return " ".join(words)


class Walks(unittest.TestCase):
    def check(self, yard, plain, desk):
        there = plain.there()
        self.assertEqual(yard.names(), list(there))
        self.assertTrue(same(yard.deeds(), plain.deeds()))
        self.assertEqual(desk.say("names"), " ".join(there) or "none")
        for name in there:
            told = told_of(there, name)
            for word, wanted in told.items():
                if word == "can":
                    self.assertEqual([yard.can(name, place) for place in range(len(wanted))], wanted)
                    self.assertEqual(desk.say(f"can {name} {len(wanted) - 1}"), " ".join(wanted[-1]))
                    continue
                self.assertTrue(alike(outcome(getattr(yard, word), name), wanted), (word, name, wanted))
            if "now" in told:
                self.assertTrue(boxes_fit(there, name, yard.boxes(name)))
                self.assertEqual(desk.say(f"now {name}"), " ".join(mark or "?" for mark in told["now"]))
                self.assertEqual(desk.say(f"gone {name}"), str(told["gone"]))
                self.assertEqual(desk.say(f"many {name}"), str(told["many"]))
                if not isinstance(told["plain"], Hidden):
                    self.assertEqual(desk.say(f"plain {name}"), " ".join(told["plain"]))

    def check_apart(self, yard, plain, desk, rng):
        there = plain.there()
        names = list(there) or ["r"]
        for _ in range(4):
            one, other = rng.choice(names), rng.choice(names)
            wanted = apart_by_hand(there, one, other)
            self.assertTrue(alike(outcome(yard.apart, one, other), wanted), (one, other, wanted))
            said = outcome(desk.say, f"apart {one} {other}")
            self.assertTrue(alike(said, wanted if isinstance(wanted, Exception) else
                                  "never" if wanted is None else str(wanted)))
            self.met.add(wanted if isinstance(wanted, int) else wanted.__class__.__name__)

    def walk(self, seed, steps):
        rng = random.Random(seed)
        yard, plain, desk = Yard(), PlainYard(), Desk()
        for _ in range(steps):
            way = rng.random()
            if way < 0.1:
                undone = plain.undo()
                self.assertIs(yard.undo(), undone)
                self.assertEqual(desk.say("undo"), "ok" if undone else "none")
            elif way < 0.17:
                redone = plain.redo()
                self.assertIs(yard.redo(), redone)
                self.assertEqual(desk.say("redo"), "ok" if redone else "none")
            elif way < 0.25:
                deeds = [some_deed(plain, rng) for _ in range(rng.randrange(4))]
                error = plain.run(deeds)
                self.assertTrue(alike(outcome(yard.run, deeds), error), (deeds, error))
                self.met.add("run" if error is None else "no run")
                desk = Desk(yard)
            else:
                deed = some_deed(plain, rng)
                error = plain.run([deed])
                self.assertTrue(alike(outcome(yard.do, deed), error), (deed, error))
                self.met.add(error.__class__.__name__)
                if not isinstance(error, NoDeed):
                    row = written(deed)
                    # Numbers below 0 can't be written.
                    wanted = NoAsk(row) if "-" in row else "ok" if error is None else error
                    self.assertTrue(alike(outcome(desk.say, row), wanted), (row, wanted))
            if rng.random() < 0.3:
                self.check(yard, plain, desk)
                self.check_apart(yard, plain, desk, rng)
            self.assertTrue(yard == desk.yard())
        return yard, plain

    def test_many_walks(self):
        self.met = set()
        for seed in range(66):
            yard, plain = self.walk(seed, 60 if seed < 60 else 300)
            text = show_yard(yard)
            self.assertEqual(text, "\n".join(written(deed) for deed in plain.deeds()))
            self.assertTrue(read_yard(text) == yard)
            while plain.undo():
                self.assertTrue(yard.undo())
            self.assertTrue(yard == Yard())
            while plain.redo():
                self.assertTrue(yard.redo())
            self.assertIs(yard.redo(), False)
            self.assertTrue(same(yard.deeds(), plain.deeds()))
        self.assertGreaterEqual(self.met, {
            "NoneType", "NoDeed", "Taken", "NoName", "NoRow", "NoWord", "NoMark", "NoPlace", "Unseen", "Unfit",
            "Needed", "Full", "Hidden", "NotThree", "NotTwice", "run", "no run", 0, 1})

    def test_texts_spoilt_at_one_row(self):
        self.met = set()
        rng = random.Random(1)
        wrong = 0
        for seed in range(100, 130):
            yard, plain = self.walk(seed, 40)
            pieces = [written(deed).split("\n") for deed in plain.deeds()]
            for _ in range(8):
                if pieces:
                    wrong += self.spoilt_text(pieces, rng)
        self.assertGreater(wrong, 60)

    def spoilt_text(self, pieces, rng):
        """A row left out, twice, moved or changed: read by hand, deed by deed."""
        rows = [row for piece in pieces for row in piece]
        at, to = rng.randrange(len(rows)), rng.randrange(len(rows))
        way = rng.randrange(5)
        if way == 0:
            rows = rows[:at] + rows[at + 1:]
        elif way == 1:
            rows = rows[:at] + rows[at:at + 1] + rows[at:]
        elif way == 2:
            rows[at], rows[to] = rows[to], rows[at]
        elif way == 3:
            rows[at] = rng.choice((rows[at] + " ", " " + rows[at], rows[at].replace(" ", "  ", 1), rows[at] + " a"))
        else:
            rows.insert(at, rng.choice(("", "undo", "names", "pass r", "word r", "row r t", "pass r 00")))
        wanted = read_by_hand(rows)
        told = outcome(read_yard, "\n".join(rows))
        if isinstance(wanted, int):
            self.assertTrue(alike(told, Unread(wanted)), (rows, wanted, told))
            return 1
        self.assertTrue(same(told.deeds(), wanted.deeds()))
        return 0


def read_by_hand(rows):
    """The plain yard that these rows make, or the number of the first one that isn't so; none at all is empty."""
    plain, at = PlainYard(), 0
    while at < len(rows) and rows != [""]:
        many = 1
        if rows[at].split(" ")[0] in ("table", "change"):
            many = 2 + len(rows[at + 1].split(" ")[1:]) ** 2 if at + 1 < len(rows) else 1
        deed = deed_by_hand(rows[at:at + many])
        if deed is None or plain.run([deed]) is not None:
            return at
        at += many
    return plain


def deed_by_hand(rows):
    """The deed of which these are the rows as written, found by writing it."""
    word, *words = rows[0].split(" ")
    if word in ("table", "change"):
        deed = (word, "".join(words), table_by_hand(rows[1:]))
    elif word == "row":
        deed = (word, *words[:2], tuple(None if mark == "?" else mark for mark in words[2:]))
    elif word == "word":
        deed = (word, *words[:1], tuple(int(place) for place in words[1:] if place.isdigit()))
    else:
        deed = (word, *[int(one) if one.isdigit() else one for one in words])
    try:
        return deed if written(deed) == "\n".join(rows) and "" not in words else None
    except TypeError:
        return None


def table_by_hand(rows):
    marks = rows[0].split(" ")[1:] if rows else []
    pairs = [tuple(row.split(" ")[3:5]) for row in rows[1:]]
    return outcome(Table, marks, [pairs[at:at + len(marks)] for at in range(0, len(pairs), len(marks) or 1)])


if __name__ == "__main__":
    unittest.main()

import copy
import inspect
import pickle
import unittest

from passmarks import errors
from passmarks.desk import Desk
from tests.things import a_yard, anything, exchange

TOLD = (
    (ValueError, (
        ("NoTable", "field"), ("NoMark", "mark"), ("NoRow", "at"), ("NoWord", "at"), ("NoOrder", "at"),
        ("NoRung", "rung"), ("NotAlike", None), ("NoNames", None), ("NotWell", "fault"), ("NotPart", "pair"),
        ("SameMark", "mark"), ("NoText", "row"), ("NoSight", "number"), ("NoDeed", "number"), ("NoAsk", "row"),
        ("Unread", "row"), ("Unseen", "name"), ("Unfit", "name"))),
    (RuntimeError, (
        ("NotThree", "fault"), ("NotSided", "fault"), ("NotTwice", "fault"), ("NotOneOne", "fault"))),
    (IndexError, (("NoNumber", "number"), ("NoPlace", "place"), ("Full", "most"))),
    (KeyError, (("NoName", "name"), ("Taken", "name"))),
    (LookupError, (("Needed", "name"), ("Hidden", "name"))),
    (ArithmeticError, (("TooMany", "most"), ("TooLong", "most"))),
)
CLASSES = [(getattr(errors, name), base, field) for base, rows in TOLD for name, field in rows]
FIELDED = [(kind, field) for kind, _, field in CLASSES if field]
BARE = [kind for kind, _, field in CLASSES if not field]


class Kinds(unittest.TestCase):
    def test_each_is_there_straight_under_its_base(self):
        self.assertEqual(len(CLASSES), 31)
        for kind, base, _ in CLASSES:
            self.assertEqual(kind.__bases__, (base,), kind)
            self.assertEqual(kind.__module__, "passmarks.errors")

    def test_no_other_class_is_there(self):
        there = [thing for _, thing in inspect.getmembers(errors, inspect.isclass)]
        self.assertEqual(sorted(map(repr, there)), sorted(repr(kind) for kind, _, _ in CLASSES))


class Fields(unittest.TestCase):
    def test_of_anything_by_places_and_by_names(self):
        for kind, field in FIELDED:
            for thing in anything():
                for made in (kind(thing), kind(**{field: thing})):
                    kept = getattr(made, field)
                    self.assertEqual(kept, thing)
                    self.assertIs(kept.__class__, thing.__class__)
                    self.assertIsInstance(str(made), str)

    def test_kinds_within_are_kept(self):
        for kind, field in FIELDED:
            kept = getattr(kind([(1, True), {"a": [None, (False, "a")]}]), field)
            self.assertEqual(repr(kept), "[(1, True), {'a': [None, (False, 'a')]}]")

    def test_what_is_kept_is_a_copy(self):
        for kind, field in FIELDED:
            handed = [1, [2], ({"a": [3]},)]
            made = kind(handed)
            handed.append(4)
            handed[1].append(4)
            handed[2][0]["a"].append(4)
            handed[2][0]["b"] = 4
            self.assertEqual(getattr(made, field), [1, [2], ({"a": [3]},)])

    def test_what_is_kept_of_yards_and_desks_is_a_copy(self):
        for kind, field in FIELDED:
            yard, desk = a_yard(), Desk(a_yard())
            made = kind([yard, {"a": (desk,)}])
            yard.do(("drop", "r"))
            desk.say("drop r")
            kept = getattr(made, field)
            self.assertTrue(kept == [a_yard(), {"a": (Desk(a_yard()),)}])
            kept[0].undo()
            self.assertEqual(yard.names(), ["t"])

    def test_what_is_kept_beside_the_field_is_no_handed_list(self):
        for kind, _ in FIELDED:
            handed = [1]
            made = kind(handed)
            self.assertNotIn("1", str(made.args) + str(made))

    def test_what_is_handed_in_is_not_changed(self):
        for kind, field in FIELDED:
            handed = [1, [2], {"a": [3]}]
            getattr(kind(handed), field)[1].append(5)
            self.assertEqual(handed, [1, [2], {"a": [3]}])

    def test_made_of_just_its_fields(self):
        for kind, field in FIELDED:
            self.assertRaises(TypeError, kind)
            self.assertRaises(TypeError, kind, 1, 2)
            self.assertEqual(vars(kind(1)), {field: 1})
        for kind in BARE:
            self.assertRaises(TypeError, kind, 1)
            self.assertEqual(vars(kind()), {})


class Likeness(unittest.TestCase):
    def test_equal_where_the_fields_are(self):
        for kind, _ in FIELDED:
            self.assertTrue(kind("a") == kind("a"))
            self.assertFalse(kind("a") != kind("a"))
            self.assertFalse(kind("a") == kind("b"))
            self.assertTrue(kind("a") != kind("b"))
            self.assertTrue(kind([exchange(2)]) == kind([exchange(2)]))
            self.assertFalse(kind([1]) == kind((1,)))
        for kind in BARE:
            self.assertTrue(kind() == kind())

    def test_equal_to_nothing_else(self):
        made = [kind("a") for kind, _ in FIELDED] + [kind() for kind in BARE]
        for at, one in enumerate(made):
            for number, other in enumerate(made):
                self.assertEqual(one == other, at == number)
            for thing in ("a", None, ("a",), exchange(1), ValueError("a"), KeyError("a"), str(one)):
                self.assertFalse(one == thing)
                self.assertFalse(thing == one)

    def test_copies_are_equal(self):
        for made in [kind([1, "a"]) for kind, _ in FIELDED] + [kind() for kind in BARE]:
            for again in (copy.copy(made), copy.deepcopy(made), pickle.loads(pickle.dumps(made))):
                self.assertTrue(again == made)


if __name__ == "__main__":
    unittest.main()

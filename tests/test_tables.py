import unittest

from passmarks.errors import NoMark, NoTable
from passmarks.tables import Table
from tests.things import anything, exchange, letters, ringed

MARKS = ["b", "a"]
PAIRS = [[("b", "b"), ("a", "b")], [("b", "a"), ("a", "a")]]


def field_of(marks, pairs):
    try:
        Table(marks, pairs)
    except NoTable as refused:
        return refused.field
    return None


def with_pair(pair):
    return [[("b", "b"), ("a", "b")], [("b", "a"), pair]]


class Told(unittest.TestCase):
    def test_marks_and_pairs(self):
        for table in (Table(MARKS, PAIRS), Table(marks=MARKS, pairs=PAIRS), Table(pairs=PAIRS, marks=MARKS)):
            self.assertEqual(table.marks(), ["b", "a"])
            self.assertEqual(table.pairs(), PAIRS)
            for line in table.pairs():
                self.assertIsInstance(line, list)
                for pair in line:
                    self.assertIsInstance(pair, tuple)

    def test_passed_by_places_and_names(self):
        table = Table(["a", "b", "c"], [[("a", "a"), ("b", "c"), ("c", "a")],
                                        [("a", "c"), ("c", "b"), ("b", "a")],
                                        [("b", "b"), ("c", "c"), ("a", "b")]])
        self.assertEqual(table.passed("a", "b"), ("b", "c"))
        self.assertEqual(table.passed("b", "a"), ("a", "c"))
        self.assertEqual(table.passed("c", "c"), ("a", "b"))
        self.assertEqual(table.passed("a", "c"), ("c", "a"))
        self.assertEqual(table.passed(other="a", one="c"), ("b", "b"))
        for k, x in enumerate(table.marks()):
            for j, y in enumerate(table.marks()):
                self.assertEqual(table.passed(x, y), table.pairs()[k][j])
                self.assertIsInstance(table.passed(x, y), tuple)

    def test_one_and_six_marks(self):
        self.assertEqual(Table(["abcdefgh"], [[("abcdefgh", "abcdefgh")]]).passed("abcdefgh", "abcdefgh"),
                         ("abcdefgh", "abcdefgh"))
        table = exchange(6)
        self.assertEqual(table.marks(), letters(6))
        self.assertEqual([len(line) for line in table.pairs()], [6] * 6)
        self.assertEqual(table.passed("a", "f"), ("f", "a"))

    def test_lists_and_tuples(self):
        as_tuples = Table(("b", "a"), ((("b", "b"), ("a", "b")), (("b", "a"), ("a", "a"))))
        as_lists = Table(["b", "a"], [[["b", "b"], ["a", "b"]], [["b", "a"], ["a", "a"]]])
        mixed = Table(("b", "a"), [(["b", "b"], ("a", "b")), [("b", "a"), ["a", "a"]]])
        for table in (as_tuples, as_lists, mixed):
            self.assertTrue(table == Table(MARKS, PAIRS))
            self.assertEqual(table.marks(), MARKS)
            self.assertEqual(table.pairs(), PAIRS)
            self.assertEqual(table.passed("b", "a"), ("a", "b"))
            self.assertIsInstance(table.passed("b", "a"), tuple)

    def test_what_is_handed_in_is_copied(self):
        marks = ["b", "a"]
        pairs = [[["b", "b"], ["a", "b"]], [["b", "a"], ["a", "a"]]]
        table = Table(marks, pairs)
        self.assertEqual(marks, ["b", "a"])
        self.assertEqual(pairs, [[["b", "b"], ["a", "b"]], [["b", "a"], ["a", "a"]]])
        marks[0] = "z"
        marks.append("c")
        pairs[0][0][0] = "a"
        pairs[1].reverse()
        pairs.append([])
        self.assertTrue(table == Table(MARKS, PAIRS))

    def test_what_is_told_is_the_askers_own(self):
        table = Table(MARKS, PAIRS)
        table.marks().append("c")
        table.marks()[0] = "z"
        told = table.pairs()
        told[0].append(("a", "a"))
        told[1][0] = ("a", "a")
        told.pop()
        self.assertEqual(table.marks(), MARKS)
        self.assertEqual(table.pairs(), PAIRS)
        self.assertTrue(table == Table(MARKS, PAIRS))


class Likeness(unittest.TestCase):
    def test_equal_where_marks_and_pairs_are(self):
        self.assertTrue(exchange(3) == exchange(3))
        self.assertFalse(exchange(3) != exchange(3))
        self.assertFalse(exchange(3) == exchange(2))
        self.assertFalse(exchange(3) == ringed(3, 1, 2))
        self.assertTrue(exchange(3) != ringed(3, 1, 2))
        self.assertFalse(Table(["a", "b"], [[("a", "a")] * 2] * 2) == Table(["b", "a"], [[("a", "a")] * 2] * 2))
        self.assertFalse(Table(["a"], [[("a", "a")]]) == Table(["b"], [[("b", "b")]]))

    def test_equal_to_nothing_else(self):
        table = Table(MARKS, PAIRS)
        for thing in anything() + [(MARKS, PAIRS), [MARKS, PAIRS], {"marks": MARKS, "pairs": PAIRS}]:
            self.assertFalse(table == thing)
            self.assertFalse(thing == table)
            self.assertTrue(table != thing)


class Refused(unittest.TestCase):
    def test_how_many_marks(self):
        self.assertEqual(field_of([], []), "marks")
        self.assertEqual(field_of((), ()), "marks")
        seven = list("abcdefg")
        self.assertEqual(field_of(seven, [[(x, y) for y in seven] for x in seven]), "marks")
        self.assertIsNone(field_of(list("a"), [[("a", "a")]]))

    def test_marks_that_are_no_names(self):
        for mark in ["", "abcdefghi", "A", "a1", "a b", "a\n", 1, None, True, ("a",), ["a"], {}, exchange(1)]:
            self.assertEqual(field_of([mark], [[(mark, mark)]]), "marks", mark)
            self.assertEqual(field_of(["a", mark], [[("a", "a")] * 2] * 2), "marks", mark)

    def test_like_marks(self):
        self.assertEqual(field_of(["a", "a"], [[("a", "a")] * 2] * 2), "marks")
        self.assertEqual(field_of(["a", "b", "a"], [[("a", "b")] * 3] * 3), "marks")

    def test_marks_of_anything(self):
        for thing in anything():
            here = isinstance(thing, (list, tuple)) and list(thing) in (["a"], ["a", "b"])
            pairs = [[("a", "a")] * len(thing)] * len(thing) if here else PAIRS
            self.assertEqual(field_of(thing, pairs), None if here else "marks", thing)

    def test_marks_go_first(self):
        for thing in anything():
            self.assertEqual(field_of(["a", "a"], thing), "marks")
            self.assertEqual(field_of([thing, "a", "a"], thing), "marks")

    def test_pairs_of_anything(self):
        for thing in anything():
            self.assertEqual(field_of(MARKS, thing), "pairs")
            self.assertEqual(field_of(MARKS, [PAIRS[0], thing]), "pairs")
            self.assertEqual(field_of(MARKS, [thing, PAIRS[1]]), "pairs")
            good = isinstance(thing, (list, tuple)) and list(thing) == ["a", "b"]
            self.assertEqual(field_of(MARKS, with_pair(thing)), None if good else "pairs")
            known = isinstance(thing, str) and thing in ("a", "b")
            self.assertEqual(field_of(MARKS, with_pair(("a", thing))), None if known else "pairs")
            self.assertEqual(field_of(MARKS, with_pair([thing, "b"])), None if known else "pairs")

    def test_pairs_of_wrong_lengths(self):
        wrong = [
            PAIRS[:1], PAIRS + PAIRS[:1], [PAIRS[0], PAIRS[1][:1]], [PAIRS[0] + [("a", "a")], PAIRS[1]],
            with_pair(("a",)), with_pair(("a", "a", "a")), with_pair(()), with_pair("ab"), with_pair(("a", "c")),
            with_pair({"a": 1, "b": 2}), {0: PAIRS[0], 1: PAIRS[1]}, "ab", ["ab", "ab"], [],
        ]
        for pairs in wrong:
            self.assertEqual(field_of(MARKS, pairs), "pairs", pairs)

    def test_no_mark(self):
        table = exchange(2)
        for thing in anything() + ["c", "aa"]:
            if isinstance(thing, str) and thing in ("a", "b"):
                continue
            for one, other in ((thing, "a"), ("a", thing), (thing, thing), (thing, "zz")):
                with self.assertRaises(NoMark) as caught:
                    table.passed(one, other)
                self.assertEqual(caught.exception.mark, thing)
                self.assertIs(caught.exception.mark.__class__, thing.__class__)

    def test_no_mark_of_the_first(self):
        with self.assertRaises(NoMark) as caught:
            exchange(2).passed("c", "d")
        self.assertEqual(caught.exception.mark, "c")

    def test_no_mark_keeps_a_copy(self):
        handed = ["a", ["b"]]
        with self.assertRaises(NoMark) as caught:
            exchange(2).passed("a", handed)
        handed[1].append("c")
        self.assertEqual(caught.exception.mark, ["a", ["b"]])


if __name__ == "__main__":
    unittest.main()

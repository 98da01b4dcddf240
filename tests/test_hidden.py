import unittest

from passmarks.errors import NoRow, NoSight, NoWord
from passmarks.blame import blame_of, shows_blame
from passmarks.hidden import all_begun, can_stand, count_begun, is_sure, marks_begun
from passmarks.treelooks import boxes_of, shows_boxes, shows_tree, tree_of
from tests.asked import all_rows_of, gone, hidden_in, in_order, rows_by_hand, shows, some_asks
from tests.things import Refusing, a_yard, anything, crossing, exchange, ringed, second_given, summed

ASKS = (count_begun, all_begun, marks_begun, tree_of, boxes_of, blame_of)


def asks():
    """All that is asked of a table, holes, a word and sightings, whatever further is handed in."""
    return [(ask, ()) for ask in ASKS] + [
        (can_stand, (0, 0)), (can_stand, (-1, None)), (is_sure, ((0, 0, "a"),)), (is_sure, (None,)),
        (shows_tree, ([("fits",)],)), (shows_tree, (7,)), (shows_boxes, ([()],)), (shows_boxes, (None,)),
        (shows_blame, (None,)), (shows_blame, (([], [], []),))]


class Begun(Refusing):
    def test_going_through_all_rows(self):
        lengths = set()
        for table, holes, word, seen in some_asks(1, rounds=6):
            rows = rows_by_hand(table, holes, word, seen)
            self.assertEqual(count_begun(table, holes, word, seen), len(rows))
            self.assertEqual(all_begun(table, holes, word, seen), rows)
            told = marks_begun(table, holes, word, seen)
            self.assertEqual(told, [in_order(table, {row[at] for row in rows}) for at in hidden_in(holes)])
            lengths.add(len(rows))
            for passes in range(len(word) + 1):
                for place in range(len(holes)):
                    there = {gone(table, row, word)[passes][place] for row in rows}
                    self.assertEqual(can_stand(table, holes, word, seen, passes, place), in_order(table, there))
                    for mark in table.marks():
                        sure = all(shows(table, row, word, (passes, place, mark)) for row in rows)
                        self.assertIs(is_sure(table, holes, word, seen, (passes, place, mark)), sure)
        self.assertGreater(len(lengths), 8)
        self.assertIn(0, lengths)

    def test_by_hand(self):
        table, holes = exchange(3), ("a", None, "b")
        self.assertEqual(count_begun(table, holes, (), []), 3)
        self.assertEqual(all_begun(table, holes, (0, 1), [(2, 2, "a"), (1, 0, "c")]), [("a", "c", "b")])
        self.assertEqual(marks_begun(table, holes, (0,), [(1, 0, "c")]), [("c",)])
        self.assertEqual(can_stand(table, holes, (0,), [], 1, 0), ("a", "b", "c"))
        self.assertEqual(can_stand(table, holes, (0,), [], 1, 1), ("a",))

    def test_no_hidden_place(self):
        self.assertEqual(count_begun(exchange(2), ("a", "b"), (0,), []), 1)
        self.assertEqual(marks_begun(exchange(2), ("a", "b"), (0,), []), [])
        self.assertEqual(all_begun(exchange(2), ("a", "b"), (0,), [(1, 0, "b")]), [("a", "b")])
        self.assertEqual(all_begun(exchange(2), ("a", "b"), (0,), [(1, 0, "a")]), [])

    def test_where_no_row_shows_all_everything_is_sure(self):
        seen = [(0, 0, "a"), (0, 0, "b")]
        self.assertEqual(count_begun(exchange(2), (None,), (), seen), 0)
        self.assertEqual(all_begun(exchange(2), (None, None), (), seen), [])
        self.assertEqual(marks_begun(exchange(2), (None, "a"), (), seen), [()])
        self.assertEqual(can_stand(exchange(2), (None,), (), seen, 0, 0), ())
        for mark in "ab":
            self.assertIs(is_sure(exchange(2), (None,), (), seen, (0, 0, mark)), True)

    def test_one_mark_and_six(self):
        self.assertEqual(all_begun(exchange(1), (None,) * 4, (0, 1), [(0, 0, "a")]), [("a",) * 4])
        self.assertEqual(count_begun(exchange(6), (None,) * 4, (0, 1), []), 1296)
        self.assertEqual(count_begun(summed(6), (None,) * 4, (0, 1, 2) * 5, [(15, 3, "f")]),
                         len(rows_by_hand(summed(6), (None,) * 4, (0, 1, 2) * 5, [(15, 3, "f")])))
        self.assertTrue(is_sure(exchange(1), (None,), (), [], (0, 0, "a")))

    def test_sixty_places_and_words_of_just_so_many(self):
        table = ringed(6, 1, 2)
        holes = ("a",) * 20 + (None,) + ("b",) * 20 + (None,) + ("c",) * 18
        word = tuple(range(59)) + (0,)
        rows = all_rows_of(table, holes)
        seen = [(60, 20, "c"), (59, 58, "d"), (60, 40, gone(table, rows[7], word)[60][40])]
        self.assertEqual(all_begun(table, holes, word, seen), rows_by_hand(table, holes, word, seen))
        self.assertEqual(can_stand(table, holes, word, [], 60, 20),
                         in_order(table, {gone(table, row, word)[60][20] for row in rows}))

    def test_lists_and_names(self):
        holes, word, seen = ["a", None], [0], ((1, 0, "b"),)
        self.assertEqual(all_begun(seen=seen, word=word, holes=holes, table=exchange(2)), [("a", "b")])
        self.assertEqual(count_begun(seen=seen, word=word, holes=holes, table=exchange(2)), 1)
        self.assertEqual(marks_begun(seen=seen, word=word, holes=holes, table=exchange(2)), [("b",)])
        self.assertEqual(can_stand(place=0, passes=1, seen=seen, word=word, holes=holes, table=exchange(2)), ("b",))
        self.assertIs(is_sure(sight=(0, 1, "b"), seen=seen, word=word, holes=holes, table=exchange(2)), True)
        self.assertEqual((holes, word, seen), (["a", None], [0], ((1, 0, "b"),)))
        told = all_begun(exchange(2), holes, word, list(seen))
        told.clear()
        marks_begun(exchange(2), holes, word, seen).clear()
        self.assertEqual(all_begun(exchange(2), holes, word, seen), [("a", "b")])
        self.assertTrue(all(isinstance(marks, tuple) for marks in marks_begun(exchange(2), holes, word, seen)))


class Refused(Refusing):
    def all_refuse(self, error, table, holes, word, seen):
        for ask, further in asks():
            self.refused(error, ask, table, holes, word, seen, *further)

    def test_rows(self):
        table = crossing()
        for holes, at in (((), -1), ([], -1), (("a",) * 61, -1), ((None,) * 61, -1), ("a", -1), ((None,) * 5, 4),
                          ((None, "a", None, None, "b", None, None), 6), (("a", "q"), 1), (("q",) + (None,) * 5, 0),
                          ((None,) * 5 + ("q",), 4), ((None,) * 4 + ("q", None), 4), (("a", True), 1)):
            self.all_refuse(NoRow(at), table, holes, (-1,), [None])
        for thing in anything():
            if not isinstance(thing, (list, tuple)):
                self.all_refuse(NoRow(-1), table, thing, (0,), [])
            if thing is not None and repr(thing) not in ("'a'", "'b'"):
                self.all_refuse(NoRow(1), table, ["a", thing, "q"], (7,), None)

    def test_just_so_many_hidden_ones(self):
        self.assertEqual(count_begun(exchange(2), ("a", None, None, "b", None, None), (), []), 16)
        self.assertEqual(count_begun(exchange(2), (None,) * 4 + ("a",) * 56, (58,), []), 16)

    def test_words(self):
        table = second_given()
        for word, at in (((1,), 0), ((0, -1), 1), ((0,) * 61, -1), ((0, 5) * 31, -1), ((0,) * 2001, -1), ("", -1),
                         ((0, True), 1), (None, -1), ((0, 0, None), 2)):
            self.all_refuse(NoWord(at), table, ("a", None), word, [None])
        self.all_refuse(NoWord(0), table, (None,), (0,), None)
        for thing in anything():
            if not isinstance(thing, (list, tuple)):
                self.all_refuse(NoWord(-1), table, ("a", None), thing, [])
            if repr(thing) != "0":
                self.all_refuse(NoWord(1), table, ["a", None], [0, thing], thing)
        self.assertEqual(count_begun(table, ("a", None), (0,) * 60, [(60, 0, "a")]), 1)

    def test_sightings(self):
        table, holes, word = exchange(2), ("a", None, "b"), (0, 1)
        good = (2, 2, "a")
        for bad in ((3, 0, "a"), (-1, 0, "a"), (0, 3, "a"), (0, -1, "a"), (0, 0, "c"), (0, 0), (0, 0, "a", 0),
                    [0, 0, "a"], (True, 0, "a"), (0, False, "a"), (0, 0, None), ("a", 0, 0), None, "abc", ()):
            self.all_refuse(NoSight(1), table, holes, word, [good, bad, bad])
            self.refused(NoSight(2), is_sure, table, holes, word, [good, good], bad)
        self.all_refuse(NoSight(-1), table, holes, word, [good] * 9)
        self.all_refuse(NoSight(-1), table, holes, word, [None] * 9)
        self.assertEqual(count_begun(table, holes, word, [good] * 8), 2)
        for thing in anything():
            if not isinstance(thing, (list, tuple)):
                self.all_refuse(NoSight(-1), table, holes, word, thing)
            self.all_refuse(NoSight(0), table, holes, word, [thing])
            self.all_refuse(NoSight(0), table, holes, word, ((thing, thing, thing),))
            if repr(thing) not in ("'a'", "'b'"):
                self.all_refuse(NoSight(0), table, holes, word, [(0, 0, thing)])
            if repr(thing) not in ("0", "1", "2"):
                self.all_refuse(NoSight(0), table, holes, word, [(thing, 0, "a")])
                self.all_refuse(NoSight(0), table, holes, word, [(0, thing, "a")])

    def test_moments(self):
        table, holes, word = exchange(2), ("a", None, "b"), (0,)
        seen = [(0, 0, "a")] * 3
        for passes, place in ((2, 0), (-1, 0), (0, 3), (0, -1), (True, 0), (0, None), ("a", "b")):
            self.refused(NoSight(3), can_stand, table, holes, word, seen, passes, place)
            self.refused(NoSight(0), can_stand, table, holes, word, (), passes, place)
        for thing in anything():
            if repr(thing) not in ("0", "1"):
                self.refused(NoSight(3), can_stand, table, holes, word, seen, thing, 0)
            if repr(thing) not in ("0", "1", "2"):
                self.refused(NoSight(3), can_stand, table, holes, word, seen, 1, thing)
            self.refused(NoSight(3), is_sure, table, holes, word, seen, thing)
        self.assertEqual(can_stand(table, holes, word, seen, 1, 2), ("b",))
        self.refused(NoSight(0), is_sure, table, holes, word, [], a_yard())


if __name__ == "__main__":
    unittest.main()

import unittest
from itertools import product

from passmarks.errors import NoRow, NoRung, NoWord
from passmarks.faults import three_fault, twice_fault
from passmarks.ladderlooks import first_unkept, shows_ladder
from passmarks.ladders import ladder, rung_done
from passmarks.passes import row_behind
from passmarks.words import told_form
from tests.test_ladders import all_rungs, behind_by_hand
from tests.things import (Refusing, anything, crossing, exchange, ringed, second_given, swap_unlike_first,
                          two_mark_tables)


def leads(places, one, other, rungs, most=2000):
    """Whether well-made rungs lead from the one word to the other, gone along by hand."""
    for rung in rungs:
        one = behind_by_hand(places, one, rung)
        if one is None or len(one) > most:
            return False
    return one == other


class ShowsLadder(unittest.TestCase):
    def test_any_ladder(self):
        self.assertIs(shows_ladder(3, (0, 1, 0), (1, 0, 1), [("turn", 0)]), True)
        self.assertIs(shows_ladder(3, (0, 1, 0), (1, 0, 1), [("turn", 0)] * 3), True)
        self.assertIs(shows_ladder(3, (0, 1, 0), (1, 0, 1), [("turn", 0)] * 2), False)
        self.assertIs(shows_ladder(3, (0, 1, 0), (1, 0, 1), []), False)
        self.assertIs(shows_ladder(3, (0, 1, 0), (0, 1, 0), []), True)
        rungs = [("far", 0), ("far", 1), ("out", 0)]
        self.assertIs(shows_ladder(4, (0, 2, 2), (0,), rungs), True)
        self.assertIs(shows_ladder(4, (0, 2, 2), (0,), [("out", 1)]), True)
        self.assertIs(shows_ladder(4, (0, 2, 2), (0,), rungs + [("in", 1, 1)]), False)
        self.assertIs(shows_ladder(4, (0, 2, 2), (0,), rungs[::-1]), False)

    def test_in_and_out_again_of_no_passes(self):
        rungs = [("in", 0, 0), ("out", 0)]
        self.assertIs(shows_ladder(2, (), (), rungs), True)
        self.assertIs(shows_ladder(2, (), (), rungs, short=False), True)
        self.assertIs(shows_ladder(2, (), (), rungs, short=True), False)
        self.assertIs(shows_ladder(2, (), (), [], short=True), True)
        self.assertIs(shows_ladder(1, (), (), []), True)
        self.assertIs(shows_ladder(1, (), (), rungs), False)

    def test_short_looks_at_the_rungs_alone(self):
        self.assertIs(shows_ladder(4, (0, 2, 0), (2, 0, 0), [("far", 0)], short=True), True)
        self.assertIs(shows_ladder(4, (0, 0), (0, 0), [], short=True), True)
        self.assertIs(shows_ladder(4, (0, 0), (), [("out", 0)], short=True), False)
        self.assertIs(shows_ladder(4, (), (0, 0), [("in", 0, 0)], short=True), False)

    def test_all_short_ladders_of_few_rungs(self):
        rungs = [rung for rung in all_rungs(3, 3) if rung[1] >= 0]
        for one, other in (((), ()), ((0,), (0, 1, 1)), ((0, 1, 0), (1, 0, 1)), ((0, 0), (1, 1))):
            for many in range(3):
                for some in product(rungs, repeat=many):
                    self.assertIs(shows_ladder(3, one, other, list(some)), leads(3, one, other, some))

    def test_how_many_rungs(self):
        back = [("far", 0)]
        for many in (2399, 2400, 2401, 2402):
            other = (2, 0) if many % 2 else (0, 2)
            self.assertIs(shows_ladder(4, (0, 2), other, back * many), many <= 2400)
            self.assertIs(shows_ladder(4, (0, 2), other, back * many, short=True), many <= 2400)

    def test_how_long_a_word_on_the_way_is(self):
        for ahead, many, well in ((0, 1000, True), (0, 1001, False), (40, 980, True), (40, 981, False),
                                  (39, 980, True), (39, 981, False)):
            rungs = [("in", 0, 0)] * many + [("out", 0)] * many
            self.assertLessEqual(len(rungs), 2400)
            self.assertIs(shows_ladder(2, (0,) * ahead, (0,) * ahead, rungs), well)

    def test_spoilt_at_one_place(self):
        back = told_form((4, 3, 2, 1, 0))
        for one, other in ((back, back[::-1]), (back + (2, 2), back[::-1]), ((0, 1, 1), (3, 3, 0))):
            told = ladder(5, one, other)
            self.assertIs(shows_ladder(5, one, other, told), True)
            for at, rung in enumerate(told):
                ahead, behind = told[:at], told[at + 1:]
                self.assertIs(shows_ladder(5, one, other, ahead + behind), leads(5, one, other, ahead + behind))
                for wrong in (list(rung), rung + (0,), rung[:1], rung[0], None, (rung[0], str(rung[1])), (), [rung],
                              (rung[0], None) + rung[2:], ("on", rung[1]), (rung[1], rung[0])):
                    self.assertIs(shows_ladder(5, one, other, ahead + [wrong] + behind), False)
                for kind in ("far", "turn", "out", "in"):
                    for by in (-1, 0, 1):
                        spoilt = ahead + [(kind, rung[1] + by) + (0,) * (kind == "in")] + behind
                        self.assertIs(shows_ladder(5, one, other, spoilt), leads(5, one, other, spoilt))
            self.assertIs(shows_ladder(5, one, other, tuple(told)), False)
            self.assertIs(shows_ladder(5, one, other, told + [None]), False)

    def test_truths_are_no_numbers(self):
        self.assertIs(shows_ladder(3, (0, 1, 0), (1, 0, 1), [("turn", False)]), False)
        self.assertIs(shows_ladder(4, (1, 0, 2), (1, 2, 0), [("far", 1)]), True)
        self.assertIs(shows_ladder(4, (1, 0, 2), (1, 2, 0), [("far", True)]), False)
        self.assertIs(shows_ladder(4, (), (0, 0), [("in", 0, False)]), False)

    def test_anything(self):
        for thing in anything():
            empty = isinstance(thing, list) and not thing
            self.assertIs(shows_ladder(3, (0, 1), (0, 1), thing), empty)
            self.assertIs(shows_ladder(3, (0, 1), [0, 1], [thing]), False)
            self.assertIs(shows_ladder(3, (0, 1, 0), (1, 0, 1), [("turn", 0), thing]), False)

    def test_lists_and_names(self):
        self.assertIs(shows_ladder(short=True, thing=[("turn", 0)], other=[1, 0, 1], one=[0, 1, 0], places=3), True)
        self.assertRaises(TypeError, shows_ladder, 3, (), (), [], True)
        thing = [["turn", 0], ("far", [0])]
        shows_ladder(3, (0, 1, 0), (1, 0, 1), thing)
        self.assertEqual(thing, [["turn", 0], ("far", [0])])


class FirstUnkept(Refusing):
    def by_hand(self, table, row, word, rungs):
        for number, rung in enumerate(rungs):
            behind = behind_by_hand(len(row), word, rung)
            if row_behind(table, row, word) != row_behind(table, row, behind):
                return number
            word = behind
        return None

    def test_some(self):
        row, word = ("a", "a", "b"), (0, 1, 0)
        table = swap_unlike_first()
        self.assertEqual(first_unkept(table, row, word, [("turn", 0)]), 0)
        self.assertEqual(first_unkept(table, row, word, [("in", 0, 1), ("out", 0), ("turn", 0), ("turn", 0)]), 2)
        self.assertIsNone(first_unkept(table, row, word, [("in", 0, 1), ("in", 5, 0), ("out", 0)]))
        self.assertIsNone(first_unkept(exchange(2), row, word, [("turn", 0)]))
        self.assertEqual(first_unkept(second_given(), ("a", "b"), (), [("in", 0, 0), ("out", 0)]), 0)
        self.assertEqual(first_unkept(second_given(), ("b", "b"), (), [("in", 0, 0), ("out", 0)]), None)
        self.assertIsNone(first_unkept(second_given(), ("a", "b"), (), []))

    def test_all_rungs_of_all_tables_of_two_marks(self):
        pairs = ((0, 1, 0), (1, 0, 1)), ((0, 2, 1), (2, 0, 1)), ((1, 1, 0), (0,)), ((0,), (1, 1, 0))
        rungs = {pair: rung for pair, rung in zip(pairs, (("turn", 0), ("far", 0), ("out", 0), ("in", 0, 1)))}
        for table in two_mark_tables():
            for row in product("ab", repeat=4):
                for (word, other), rung in rungs.items():
                    kept = row_behind(table, row, word) == row_behind(table, row, other)
                    self.assertEqual(first_unkept(table, row, word, [rung]), None if kept else 0)
                    # Which rungs keep all rows hangs on the table.
                    if rung[0] == "far" or three_fault(table) is None and rung[0] == "turn":
                        self.assertTrue(kept)
                    if twice_fault(table) is None and rung[0] in ("in", "out"):
                        self.assertTrue(kept)

    def test_ladders(self):
        for table in (swap_unlike_first(), second_given(), ringed(3, 1, 1), crossing()):
            for row in product("ab", repeat=4):
                for one, other in (((0, 1, 2, 0, 1, 0), (2, 1, 0, 2, 1, 2)), ((1, 0, 0, 2), (0, 0, 1, 2))):
                    told = ladder(4, one, other)
                    self.assertEqual(first_unkept(table, row, one, told), self.by_hand(table, row, one, told))

    def test_words_on_the_way_may_be_longer(self):
        rungs = [("in", 0, 0)] * 2 + [("out", 7)] * 2
        self.assertIsNone(first_unkept(exchange(2), ("a", "b"), (0,) * 2000, rungs))
        self.assertEqual(first_unkept(ringed(3, 1, 1), ("a", "b"), (0,) * 2000, rungs), 0)
        self.assertEqual(first_unkept(ringed(3, 1, 0), ("a", "b"), (0,) * 2000, [("out", 1998)]), 0)

    def test_sixty_places(self):
        row = ("a",) * 59 + ("b",)
        self.assertEqual(first_unkept(second_given(), row, (), [("in", 0, 0), ("in", 2, 58)]), 1)
        self.assertIsNone(first_unkept(exchange(2), row, (), [("in", 0, 0), ("in", 2, 58)]))

    def test_lists_and_names(self):
        told = first_unkept(rungs=(("turn", 0),), word=[0, 1, 0], row=["a", "a", "b"], table=swap_unlike_first())
        self.assertEqual(told, 0)
        row, word, rungs = ["a", "a", "b"], [0, 1, 0], [("turn", 0)]
        first_unkept(swap_unlike_first(), row, word, rungs)
        self.assertEqual((row, word, rungs), (["a", "a", "b"], [0, 1, 0], [("turn", 0)]))

    def test_rungs_that_can_not_be_done(self):
        table, row, word = swap_unlike_first(), ("a", "a", "b"), (0, 1, 0)
        for rungs, wrong in (([("out", 0)], ("out", 0)), ([("turn", 0), ("turn", 1)], ("turn", 1)),
                             ([("turn", 0), ("far", 0), ("out", 0)], ("far", 0)),
                             ([("in", 3, 1), ("out", 3), ("out", 3)], ("out", 3)),
                             ([("in", 4, 1)], ("in", 4, 1)), ([("in", 0, 2)], ("in", 0, 2)),
                             ([["turn", 0]], ["turn", 0])):
            self.refused(NoRung(wrong), first_unkept, table, row, word, rungs)
            self.refused(NoRung(wrong), first_unkept, table, row, word, tuple(rungs))

    def test_anything(self):
        table, row, word = swap_unlike_first(), ("a", "a", "b"), (0, 1, 0)
        for thing in anything():
            self.refused(NoRung(thing), first_unkept, table, row, word, [thing])
            self.refused(NoRung(thing), first_unkept, table, row, word, [("turn", 0), thing, ("far", 9)])
            if not isinstance(thing, (list, tuple)):
                self.refused(NoRung(-1), first_unkept, table, row, word, thing)
                self.refused(NoRow(-1), first_unkept, table, thing, thing, thing)
                self.refused(NoWord(-1), first_unkept, table, row, thing, thing)
            elif thing:
                self.refused(NoRung(thing[0]), first_unkept, table, row, word, thing)

    def test_rows_then_words_then_rungs(self):
        table = exchange(2)
        self.refused(NoRow(1), first_unkept, table, ("a", "c"), (7,), None)
        self.refused(NoRow(-1), first_unkept, table, (), (7,), None)
        self.refused(NoWord(1), first_unkept, table, ("a", "b"), (0, 1), None)
        self.refused(NoWord(-1), first_unkept, table, ("a", "b"), (0,) * 2001, [("far", 9)])
        self.refused(NoRung(("far", 0)), first_unkept, table, ("a", "b"), (0, 0), [("far", 0)])

    def test_rungs_are_done_as_rung_done_does_them(self):
        for rung in all_rungs(3, 3):
            word = (0, 1, 1)
            if behind_by_hand(3, word, rung) is None:
                self.refused(NoRung(rung), rung_done, 3, word, rung)
                self.refused(NoRung(rung), first_unkept, exchange(1), ("a",) * 3, word, [rung])
            else:
                self.assertIsNone(first_unkept(exchange(1), ("a",) * 3, word, [rung]))


if __name__ == "__main__":
    unittest.main()

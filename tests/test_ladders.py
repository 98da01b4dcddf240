import unittest
from itertools import permutations, product

from passmarks.errors import NoNumber, NoRung, NotAlike, NoWord, TooLong
from passmarks.ladderlooks import shows_ladder
from passmarks.ladders import ladder, rung_done
from passmarks.orders import order_of
from passmarks.words import is_short, told_form
from tests.things import Refusing, anything

BACK = told_form((7, 6, 5, 4, 3, 2, 1, 0))
# None of these is a rung, whatever the word is.
ILL_MADE = [["far", 0], ("far",), ("far", 0, 0), ("in", 0), ("in", 0, 0, 0), ("turn", 0, 1), ("out", 0, 0), ("on", 0),
            ("far", True), ("far", False), ("far", None), ("far", "0"), ("in", False, 0), ("in", 0, False),
            ("in", 0, True), ("in", 0, "a"), ("in", None, 0), ("Far", 0), (0, "far"), {"far": 0}, "far",
            (["far"], 0), ("far", (0,)), ("far", [0]), (None, 0), ("in", 0, [0]), ["in", 0, 0]]


def words(places, most):
    return [word for length in range(most + 1) for word in product(range(places - 1), repeat=length)]


def behind_by_hand(places, word, rung):
    """The word behind a well-made rung, None where it can't be done there."""
    at = rung[1]
    if at < 0:
        return None
    if rung[0] == "in":
        if at > len(word) or not 0 <= rung[2] <= places - 2:
            return None
        return word[:at] + (rung[2],) * 2 + word[at:]
    there = word[at:at + (3 if rung[0] == "turn" else 2)]
    goals = {"out": {(k, k): () for k in range(places)},
             "far": {(k, m): (m, k) for k in range(places) for m in range(places) if k - m not in (-1, 0, 1)},
             "turn": {(k, m, k): (m, k, m) for k in range(places) for m in range(places) if k - m in (-1, 1)}}[rung[0]]
    return word[:at] + goals[there] + word[at + len(there):] if there in goals else None


def all_rungs(places, passes):
    """All rungs, and some beyond, for a word of so many passes."""
    rungs = [(kind, at) for kind in ("far", "turn", "out") for at in range(-1, passes + 2)]
    return rungs + [("in", at, place) for at in range(-1, passes + 2) for place in range(-1, places + 1)]


class Rungs(Refusing):
    def test_each_kind(self):
        self.assertEqual(rung_done(4, (0, 2, 1), ("far", 0)), (2, 0, 1))
        self.assertEqual(rung_done(4, (0, 2, 1), ("in", 1, 2)), (0, 2, 2, 2, 1))
        self.assertEqual(rung_done(4, (0, 1, 0, 2), ("turn", 0)), (1, 0, 1, 2))
        self.assertEqual(rung_done(4, (2, 1, 2), ("turn", 0)), (1, 2, 1))
        self.assertEqual(rung_done(4, (2, 1, 1, 0), ("out", 1)), (2, 0))

    def test_at_the_first_and_at_the_last_pass(self):
        self.assertEqual(rung_done(5, (3, 0, 1, 3), ("far", 0)), (0, 3, 1, 3))
        self.assertEqual(rung_done(5, (3, 0, 1, 3), ("far", 2)), (3, 0, 3, 1))
        self.assertEqual(rung_done(5, (3, 0, 1, 0), ("turn", 1)), (3, 1, 0, 1))
        self.assertEqual(rung_done(5, (3, 3), ("out", 0)), ())
        self.assertEqual(rung_done(5, (1, 3, 3), ("out", 1)), (1,))
        self.assertEqual(rung_done(5, (1, 3), ("in", 0, 0)), (0, 0, 1, 3))
        self.assertEqual(rung_done(5, (1, 3), ("in", 2, 3)), (1, 3, 3, 3))

    def test_beyond_the_last_pass(self):
        for rung in (("far", 3), ("far", 4), ("turn", 2), ("turn", 3), ("out", 3), ("out", 4), ("in", 5, 0),
                     ("far", -1), ("turn", -1), ("out", -1), ("in", -1, 0), ("far", 10 ** 60), ("in", 10 ** 60, 0)):
            self.refused(NoRung(rung), rung_done, 4, (0, 2, 0, 2), rung)
        for rung in (("far", 0), ("turn", 0), ("out", 0), ("in", 1, 0)):
            self.refused(NoRung(rung), rung_done, 4, (), rung)
        self.assertEqual(rung_done(4, (), ("in", 0, 2)), (2, 2))

    def test_what_can_not_be_done(self):
        for word, rung in (((0, 1), ("far", 0)), ((1, 0), ("far", 0)), ((2, 2), ("far", 0)), ((0, 2, 0), ("turn", 0)),
                           ((0, 0, 0), ("turn", 0)), ((0, 1, 2), ("turn", 0)), ((1, 0, 0), ("turn", 0)),
                           ((0, 1), ("out", 0)), ((0, 2), ("out", 0)), ((0,), ("in", 0, 3)), ((0,), ("in", 0, -1))):
            self.refused(NoRung(rung), rung_done, 4, word, rung)

    def test_going_through_all(self):
        for places in (1, 2, 3, 4, 5):
            for word in words(places, 3) + [(0, 2, 2, 0), (1, 0, 1, 0)] * (places > 3):
                for rung in all_rungs(places, len(word)):
                    behind = behind_by_hand(places, word, rung)
                    if behind is None:
                        self.refused(NoRung(rung), rung_done, places, word, rung)
                    else:
                        self.assertEqual(rung_done(places, word, rung), behind)
                        self.assertEqual(order_of(places, word), order_of(places, behind))

    def test_one_place_and_sixty(self):
        for rung in all_rungs(1, 0):
            self.refused(NoRung(rung), rung_done, 1, (), rung)
        self.assertEqual(rung_done(60, (58, 0), ("far", 0)), (0, 58))
        self.assertEqual(rung_done(60, (), ("in", 0, 58)), (58, 58))
        self.refused(NoRung(("in", 0, 59)), rung_done, 60, (), ("in", 0, 59))

    def test_words_of_two_thousand_passes(self):
        self.assertEqual(rung_done(2, (0,) * 2000, ("in", 2000, 0)), (0,) * 2002)
        self.assertEqual(rung_done(2, (0,) * 2000, ("out", 1998)), (0,) * 1998)
        self.refused(NoRung(("out", 1999)), rung_done, 2, (0,) * 2000, ("out", 1999))
        self.refused(NoWord(-1), rung_done, 2, (0,) * 2001, ("out", 0))

    def test_lists_and_names(self):
        behind = rung_done(rung=("far", 0), word=[0, 2], places=4)
        self.assertEqual(behind, (2, 0))
        self.assertIsInstance(behind, tuple)
        word = [0, 0]
        rung_done(2, word, ("out", 0))
        self.assertEqual(word, [0, 0])


class RungsRefused(Refusing):
    def test_rungs_of_anything(self):
        for thing in anything() + ILL_MADE:
            for word in ((0, 2, 0, 1, 0, 0), ()):
                self.refused(NoRung(thing), rung_done, 4, word, thing)
        for thing in anything():
            self.refused(NoRung(("far", [thing])), rung_done, 4, (0, 2), ("far", [thing]))
            self.refused(NoRung((thing, 0)), rung_done, 4, (0, 2), (thing, 0))
            if repr(thing) not in ("0", "1", "2"):
                self.refused(NoRung(("in", 0, thing)), rung_done, 4, (0, 2), ("in", 0, thing))

    def test_what_is_told_of_a_rung_is_a_copy(self):
        rung = ["far", [0]]
        try:
            rung_done(4, (0, 2), rung)
        except NoRung as refused:
            kept = refused.rung
        rung[1].append(1)
        self.assertEqual(kept, ["far", [0]])

    def test_words_of_anything(self):
        for thing in anything():
            if isinstance(thing, (list, tuple)):
                if list(map(repr, thing)) in ([], ["0"], ["1", "0"]):
                    continue
                self.refused(NoWord(0), rung_done, 4, thing, "far")
            else:
                self.refused(NoWord(-1), rung_done, 4, thing, thing)
        self.refused(NoWord(2), rung_done, 4, (0, 2, 3, "a"), ("far", 0))

    def test_places_of_anything(self):
        for thing in anything():
            if repr(thing) not in ("1", "2", "59", "60"):
                self.refused(NoNumber(thing), rung_done, thing, (), ("far", 0))
                self.refused(NoNumber(thing), rung_done, thing, thing, thing)


class Ladders(Refusing):
    def check(self, places, one, other):
        told = ladder(places, one, other)
        self.assertIsInstance(told, list)
        self.assertLessEqual(len(told), 28 * (len(one) + len(other)))
        now = tuple(one)
        for rung in told:
            self.assertIsInstance(rung, tuple)
            now = behind_by_hand(places, now, rung)
            self.assertLessEqual(len(now), 2000)
        self.assertEqual(now, tuple(other))
        self.assertIs(shows_ladder(places, one, other, told), True)
        if is_short(places, one) and is_short(places, other):
            self.assertLessEqual({rung[0] for rung in told}, {"far", "turn"})
            self.assertIs(shows_ladder(places, one, other, told, short=True), True)

    def check_all(self, places, some):
        alike = {}
        for word in some:
            alike.setdefault(order_of(places, word), []).append(word)
        for same in alike.values():
            for one in same:
                for other in same:
                    self.check(places, one, other)

    def test_all_words_of_few_passes(self):
        self.check_all(1, words(1, 0))
        self.check_all(2, words(2, 6))
        self.check_all(3, words(3, 5))
        self.check_all(4, words(4, 3))

    def test_all_short_words_of_four_runners(self):
        self.check_all(4, [word for word in words(4, 6) if is_short(4, word)])

    def test_all_orders_of_five_runners(self):
        for order in permutations(range(5)):
            word = told_form(order)
            back = tuple(3 - place for place in reversed(word))
            self.assertTrue(is_short(5, back))
            self.check(5, word, told_form(order_of(5, word)))
            self.check(5, back, told_form(order_of(5, back)))
            self.check(5, told_form(order_of(5, back)), back)

    def test_eight_places(self):
        turned = tuple(6 - place for place in BACK)
        for one, other in ((BACK, BACK[::-1]), (BACK, turned), (turned, BACK[::-1]), (BACK + (0, 0), turned)):
            self.check(8, one, other)

    def test_words_of_forty_passes(self):
        # Where all runners are turned about, each further pass is led through the longest told form.
        for one in range(7):
            for other in range(7):
                self.check(8, BACK + (one, one) * 6, BACK[::-1] + (other, other) * 6)
        self.check(8, (0,) * 40, (6,) * 40)
        self.check(8, (), (3, 3) * 20)
        self.check(2, (0,) * 40, ())
        self.check(2, (0,) * 39, (0,))

    def test_no_passes(self):
        for places in range(1, 9):
            self.check(places, (), ())
        self.check(8, (), (6, 6))
        self.check(8, (6, 6), ())

    def test_lists_and_names(self):
        self.assertEqual(ladder(other=[1, 0, 1], one=[0, 1, 0], places=3), ladder(3, (0, 1, 0), (1, 0, 1)))
        told = ladder(3, (0, 1, 0), (1, 0, 1))
        told.append("a")
        self.assertNotEqual(ladder(3, (0, 1, 0), (1, 0, 1)), told)


class LaddersRefused(Refusing):
    def both(self, error, *arguments):
        self.refused(error, ladder, *arguments)
        self.refused(error, shows_ladder, *arguments, [])
        self.refused(error, shows_ladder, *arguments, None, short=True)

    def test_places_of_anything(self):
        for thing in anything() + [9, 10, 3.5]:
            if repr(thing) not in ("1", "2"):
                self.both(NoNumber(thing), thing, (), ())
                self.both(NoNumber(thing), thing, thing, thing)
                self.both(NoNumber(thing), thing, (0,) * 41, (59,))

    def test_words_of_anything(self):
        for thing in anything():
            if not isinstance(thing, (list, tuple)):
                self.both(NoWord(-1), 8, thing, (9,))
                self.both(NoWord(-1), 8, (0,) * 41, thing)
            elif list(map(repr, thing)) not in ([], ["0"], ["1", "0"]):
                self.both(NoWord(0), 8, thing, "a")
                self.both(NoWord(0), 8, (0,) * 41, thing)

    def test_the_one_then_the_other(self):
        self.both(NoWord(1), 8, (0, 7), (7,))
        self.both(NoWord(2), 8, (0, 6), (0, 1, -1))
        self.both(NoWord(0), 1, (), (0,))

    def test_how_long_words_are(self):
        self.both(TooLong(40), 8, (0,) * 41, (0,))
        self.both(TooLong(40), 8, (0,), (0,) * 41)
        self.both(TooLong(40), 8, (0,) * 2000, (0,) * 2000)
        self.both(NoWord(-1), 8, (0,) * 2001, (0,) * 41)
        self.both(NoWord(-1), 8, (0,) * 41, (0,) * 2001)
        self.both(NoWord(40), 8, (0,) * 40 + (7,), (0,) * 41)

    def test_too_long_goes_ahead_of_unlike_orders(self):
        self.both(TooLong(40), 8, (0,) * 41, ())
        self.both(NotAlike(), 8, (0,) * 39, ())

    def test_unlike_orders(self):
        self.both(NotAlike(), 3, (0, 1), (1, 0))
        self.both(NotAlike(), 3, (), (1,))
        self.both(NotAlike(), 3, (0, 0, 1), (0,))


if __name__ == "__main__":
    unittest.main()

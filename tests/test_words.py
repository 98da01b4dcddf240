import unittest
from itertools import permutations, product

from passmarks.errors import NoNumber, NoOrder, NoWord
from passmarks.orders import order_of
from passmarks.words import is_short, told_form, who_pass
from tests.things import anything


def inversions(order):
    return sum(one > other for at, one in enumerate(order) for other in order[at:])


class Told(unittest.TestCase):
    def test_is_short(self):
        for word in ((), (0,), (0, 1), (1, 0), (0, 1, 0), (1, 0, 1), [0, 1, 0]):
            self.assertIs(is_short(3, word), True, word)
        for word in ((0, 0), (1, 1), (0, 1, 0, 1), (0, 1, 1), (1, 0, 0), (0, 1, 0, 0), (0,) * 2000):
            self.assertIs(is_short(3, word), False, word)
        self.assertIs(is_short(4, (0, 2, 0)), False)
        self.assertIs(is_short(places=1, word=()), True)

    def test_short_words_have_as_many_passes_as_the_order_has_pairs(self):
        for many in range(6):
            for word in product(range(3), repeat=many):
                self.assertIs(is_short(4, word), inversions(order_of(4, word)) == many)

    def test_sixty_places(self):
        back = tuple(range(59, -1, -1))
        word = told_form(back)
        self.assertEqual(len(word), 1770)
        self.assertIs(is_short(60, word), True)
        self.assertIs(is_short(60, word + (0,)), False)
        self.assertEqual(order_of(60, word), back)
        self.assertEqual(len(set(who_pass(60, word))), 1770)

    def test_who_pass(self):
        self.assertEqual(who_pass(3, (0, 1, 0)), [(0, 1), (0, 2), (1, 2)])
        self.assertEqual(who_pass(3, (1, 0, 1)), [(1, 2), (0, 2), (0, 1)])
        self.assertEqual(who_pass(places=3, word=[0, 0, 1]), [(0, 1), (1, 0), (1, 2)])
        self.assertEqual(who_pass(1, ()), [])
        self.assertEqual(who_pass(60, (58, 57)), [(58, 59), (57, 59)])
        self.assertEqual(who_pass(2, (0,) * 2000), [(0, 1), (1, 0)] * 1000)

    def test_told_form(self):
        self.assertEqual(told_form((0,)), ())
        self.assertEqual(told_form((0, 1, 2)), ())
        self.assertEqual(told_form((1, 0, 2)), (0,))
        self.assertEqual(told_form((2, 1, 0)), (0, 1, 0))
        self.assertEqual(told_form((1, 2, 0)), (0, 1))
        self.assertEqual(told_form((2, 0, 1)), (1, 0))
        self.assertEqual(told_form(order=[3, 2, 1, 0]), (0, 1, 0, 2, 1, 0))
        self.assertEqual(told_form((2, 0, 3, 1)), (1, 0, 2))
        self.assertEqual(told_form([1, 3, 0, 2]), (0, 2, 1))
        self.assertIsInstance(told_form([1, 0]), tuple)

    def test_the_told_form_is_short_and_makes_the_order(self):
        for many in range(1, 6):
            for order in permutations(range(many)):
                word = told_form(order)
                self.assertEqual(order_of(many, word), order)
                self.assertIs(is_short(many, word), True)

    def test_nothing_handed_in_is_changed(self):
        word, order = [0, 1], [2, 0, 1]
        is_short(3, word)
        who_pass(3, word).append("a")
        told_form(order)
        self.assertEqual((word, order), ([0, 1], [2, 0, 1]))
        self.assertEqual(who_pass(3, word), [(0, 1), (0, 2)])


class Refused(unittest.TestCase):
    def test_places_of_anything_ahead_of_the_word(self):
        for thing in anything():
            if thing.__class__ is int and 1 <= thing <= 60:
                continue
            for call in (is_short, who_pass):
                for word in ((), None, (9,)):
                    with self.assertRaises(NoNumber) as caught:
                        call(thing, word)
                    self.assertEqual(caught.exception.number, thing)

    def test_words(self):
        wrong = [((1,), 0), ((0, 1), 1), ((0, 0, -1), 2), ((0, True), 1), ((0,) * 2001, -1), ("0", -1), (None, -1),
                 ({}, -1), (0, -1), ([None], 0), (((0,),), 0)]
        for call in (is_short, who_pass):
            for word, at in wrong:
                with self.assertRaises(NoWord) as caught:
                    call(2, word)
                self.assertEqual(caught.exception.at, at)
            for thing in anything():
                if not isinstance(thing, (tuple, list)):
                    self.assertRaises(NoWord, call, 2, thing)
                self.assertRaises(NoWord, call, 1, (thing,))

    def test_orders(self):
        wrong = [((), -1), (tuple(range(61)), -1), ((0, 2), 1), ((1, 1), 1), ((0, False), 1), (None, -1), ("0", -1),
                 ({0: 0}, -1), ([[]], 0), (7, -1)]
        for order, at in wrong:
            with self.assertRaises(NoOrder) as caught:
                told_form(order)
            self.assertEqual(caught.exception.at, at)


if __name__ == "__main__":
    unittest.main()

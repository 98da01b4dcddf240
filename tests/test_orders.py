import unittest
from itertools import permutations, product

from passmarks.errors import NoNumber, NoOrder, NoWord
from passmarks.orders import joined, order_of, undone
from tests.things import anything


class Told(unittest.TestCase):
    def test_order_of(self):
        self.assertEqual(order_of(3, (0,)), (1, 0, 2))
        self.assertEqual(order_of(3, (1,)), (0, 2, 1))
        self.assertEqual(order_of(3, (0, 1)), (1, 2, 0))
        self.assertEqual(order_of(3, (1, 0)), (2, 0, 1))
        self.assertEqual(order_of(4, (0, 1, 2, 0)), (2, 1, 3, 0))
        self.assertEqual(order_of(places=2, word=[0, 0]), (0, 1))
        self.assertIsInstance(order_of(2, [0]), tuple)

    def test_one_runner_and_sixty(self):
        self.assertEqual(order_of(1, ()), (0,))
        self.assertEqual(order_of(60, ()), tuple(range(60)))
        self.assertEqual(order_of(60, tuple(range(59))), tuple(range(1, 60)) + (0,))
        self.assertEqual(order_of(60, (58,)), tuple(range(58)) + (59, 58))
        self.assertEqual(order_of(2, (0,) * 1999), (1, 0))
        back = tuple(range(59, -1, -1))
        self.assertEqual(undone(back), back)
        self.assertEqual(joined(back, back), tuple(range(60)))
        self.assertEqual((undone((0,)), joined((0,), (0,))), ((0,), (0,)))

    def test_joined_is_what_a_word_and_then_another_make(self):
        words = [word for many in range(4) for word in product(range(3), repeat=many)]
        for one in words:
            for other in words[::3]:
                self.assertEqual(joined(order_of(4, one), order_of(4, other)), order_of(4, one + other))

    def test_some_joined(self):
        self.assertEqual(joined((1, 0, 2), (0, 2, 1)), (1, 2, 0))
        self.assertEqual(joined((0, 2, 1), (1, 0, 2)), (2, 0, 1))
        self.assertEqual(joined(one=[1, 2, 0], other=(1, 2, 0)), (2, 0, 1))
        self.assertIsInstance(joined([0, 1], [1, 0]), tuple)

    def test_undone(self):
        self.assertEqual(undone((1, 2, 0)), (2, 0, 1))
        self.assertEqual(undone(order=[2, 0, 3, 1]), (1, 3, 0, 2))
        for order in permutations(range(4)):
            self.assertEqual(joined(order, undone(order)), (0, 1, 2, 3))
            self.assertEqual(joined(undone(order), order), (0, 1, 2, 3))
            self.assertIsInstance(undone(list(order)), tuple)

    def test_a_word_from_behind_makes_what_undoes(self):
        for word in product(range(3), repeat=4):
            self.assertEqual(order_of(4, word[::-1]), undone(order_of(4, word)))

    def test_nothing_handed_in_is_changed(self):
        word, one, other = [0, 1], [1, 0, 2], [2, 1, 0]
        order_of(3, word)
        joined(one, other)
        undone(one)
        self.assertEqual((word, one, other), ([0, 1], [1, 0, 2], [2, 1, 0]))


class Refused(unittest.TestCase):
    def at_of(self, call, *arguments):
        with self.assertRaises(NoOrder) as caught:
            call(*arguments)
        return caught.exception.at

    def test_places_of_anything_ahead_of_the_word(self):
        for thing in anything() + [-5, 62]:
            if thing.__class__ is int and 1 <= thing <= 60:
                continue
            for word in ((), (0,), "x", None, (9,)):
                with self.assertRaises(NoNumber) as caught:
                    order_of(thing, word)
                self.assertEqual(caught.exception.number, thing)
                self.assertIs(caught.exception.number.__class__, thing.__class__)

    def test_words(self):
        for thing in anything():
            if isinstance(thing, (tuple, list)) and list(map(repr, thing)) in ([], ["0"], ["1", "0"]):
                self.assertEqual(sorted(order_of(3, thing)), [0, 1, 2])
                continue
            with self.assertRaises(NoWord) as caught:
                order_of(3, thing)
            self.assertEqual(caught.exception.at, 0 if isinstance(thing, (tuple, list)) else -1)
        for word, at in (((2,), 0), ((0, 1, 2), 2), ((0, -1), 1), ((0,) * 2001, -1), ((0, 1, 0, True), 3)):
            with self.assertRaises(NoWord) as caught:
                order_of(3, word)
            self.assertEqual(caught.exception.at, at)

    def test_orders_of_anything(self):
        for thing in anything():
            good = isinstance(thing, (tuple, list)) and list(map(repr, thing)) in (["0"], ["1", "0"])
            if good:
                self.assertEqual(undone(thing), tuple(thing))
                continue
            at = 0 if isinstance(thing, (tuple, list)) and thing else -1
            self.assertEqual(self.at_of(undone, thing), at)
            self.assertEqual(self.at_of(joined, thing, thing), at)
            self.assertEqual(self.at_of(joined, thing, (0,)), at)

    def test_second_orders_of_anything(self):
        for thing in anything():
            if isinstance(thing, (tuple, list)) and list(map(repr, thing)) == ["1", "0"]:
                self.assertEqual(joined((1, 0), thing), (0, 1))
                continue
            two = isinstance(thing, (tuple, list)) and len(thing) == 2
            self.assertEqual(self.at_of(joined, (1, 0), thing), 0 if two else -1)

    def test_how_many_runners(self):
        self.assertEqual(self.at_of(undone, ()), -1)
        self.assertEqual(self.at_of(undone, tuple(range(61))), -1)
        self.assertEqual(self.at_of(undone, [0] * 61), -1)
        self.assertEqual(undone(list(range(60))), tuple(range(60)))

    def test_the_first_wrong_runner(self):
        self.assertEqual(self.at_of(undone, (0, 1, 3)), 2)
        self.assertEqual(self.at_of(undone, (0, 0, "a")), 1)
        self.assertEqual(self.at_of(undone, (2, 1, 0, 1)), 3)
        self.assertEqual(self.at_of(undone, (-1, 0)), 0)
        self.assertEqual(self.at_of(undone, (0, True)), 1)
        self.assertEqual(self.at_of(undone, tuple(range(59)) + (60,)), 59)

    def test_the_first_order_then_the_second(self):
        self.assertEqual(self.at_of(joined, (0, 1, 1), (0,)), 2)
        self.assertEqual(self.at_of(joined, (0, 1, 2), (0, 5, 5)), 1)
        self.assertEqual(self.at_of(joined, (0, 1, 2), (5, 5)), -1)
        self.assertEqual(self.at_of(joined, (0, 1), (0, 1, 2)), -1)
        self.assertEqual(self.at_of(joined, (0, 1), ()), -1)
        self.assertEqual(self.at_of(joined, (1, 1), (0, 1, 2)), 1)


if __name__ == "__main__":
    unittest.main()

import unittest
from itertools import permutations, product

from passmarks.errors import NoNumber, NoOrder, NoWord, TooMany
from passmarks.orders import order_of
from passmarks.shortwords import many_short, short_at, short_number
from passmarks.words import is_short, told_form
from tests.things import anything

BACK = (6, 5, 4, 3, 2, 1, 0)
CALLS = (many_short, lambda order: short_at(order, 0), lambda order: short_number(order, ()))


def all_short(many):
    """Of each order of so many runners its short words, rising, found among all words."""
    words = {order: [] for order in permutations(range(many))}
    for length in range(many * (many - 1) // 2 + 1):
        for word in product(range(many - 1), repeat=length):
            if is_short(many, word):
                words[order_of(many, word)].append(word)
    return words


class Told(unittest.TestCase):
    def test_all_orders_of_few_runners(self):
        for many in range(1, 5):
            for order, words in all_short(many).items():
                self.assertEqual(words, sorted(words))
                self.assertEqual(many_short(order), len(words))
                self.assertEqual([short_at(order, number) for number in range(len(words))], words)
                self.assertEqual([short_number(order, word) for word in words], list(range(len(words))))

    def test_one_runner_and_no_pass(self):
        self.assertEqual(many_short((0,)), 1)
        self.assertEqual(short_at((0,), 0), ())
        self.assertEqual(short_number((0,), ()), 0)
        self.assertEqual(many_short(tuple(range(7))), 1)
        self.assertEqual(short_at(tuple(range(7)), 0), ())

    def test_seven_runners(self):
        self.assertEqual(many_short((4, 3, 2, 1, 0)), 768)
        self.assertEqual(many_short((5, 4, 3, 2, 1, 0)), 292864)
        self.assertEqual(many_short(BACK), 1100742656)
        for number in (0, 1, 2, 10 ** 9, 987654321, 1100742655):
            word = short_at(BACK, number)
            self.assertTrue(is_short(7, word))
            self.assertEqual(order_of(7, word), BACK)
            self.assertEqual(short_number(BACK, word), number)
        self.assertEqual(short_at(BACK, 0), told_form(BACK))
        some = [short_at(BACK, number) for number in range(0, 1100742656, 90000000)]
        self.assertEqual(some, sorted(some))

    def test_all_of_one_order_of_five(self):
        order = (4, 2, 3, 1, 0)
        words = [short_at(order, number) for number in range(many_short(order))]
        self.assertEqual(words, sorted(set(words)))
        self.assertEqual({order_of(5, word) for word in words}, {order})
        self.assertEqual({len(word) for word in words}, {9})

    def test_lists_and_names(self):
        self.assertEqual(many_short(order=[2, 1, 0]), 2)
        self.assertEqual(short_at(order=[2, 1, 0], number=1), (1, 0, 1))
        self.assertEqual(short_number(order=[2, 1, 0], word=[1, 0, 1]), 1)
        self.assertIsInstance(short_at([2, 1, 0], 1), tuple)
        order, word = [2, 1, 0], [1, 0, 1]
        short_number(order, word)
        self.assertEqual((order, word), ([2, 1, 0], [1, 0, 1]))


class Refused(unittest.TestCase):
    def test_orders_of_anything(self):
        for call in CALLS:
            for thing in anything():
                if isinstance(thing, (tuple, list)) and list(map(repr, thing)) in (["0"], ["1", "0"]):
                    continue
                with self.assertRaises(NoOrder) as caught:
                    call(thing)
                at = 0 if isinstance(thing, (tuple, list)) and thing else -1
                self.assertEqual(caught.exception.at, at)
            with self.assertRaises(NoOrder) as caught:
                call((0, 1, 2, 1))
            self.assertEqual(caught.exception.at, 3)

    def test_eight_runners_and_more(self):
        for call in CALLS:
            for many in (8, 9, 60):
                with self.assertRaises(TooMany) as caught:
                    call(tuple(range(many)))
                self.assertEqual(caught.exception.most, 7)
            with self.assertRaises(NoOrder) as caught:
                call((0,) * 8)
            self.assertEqual(caught.exception.at, 1)
            self.assertRaises(NoOrder, call, tuple(range(61)))

    def test_orders_go_ahead_of_numbers_and_words(self):
        for thing in anything():
            self.assertRaises(NoOrder, short_at, (1, 1), thing)
            self.assertRaises(TooMany, short_at, tuple(range(8)), thing)
            self.assertRaises(NoOrder, short_number, (1, 1), thing)
            self.assertRaises(TooMany, short_number, tuple(range(8)), thing)

    def test_numbers_of_anything(self):
        for thing in anything():
            if repr(thing) in ("0", "1"):
                self.assertEqual(short_at((2, 1, 0), thing), [(0, 1, 0), (1, 0, 1)][thing])
                continue
            with self.assertRaises(NoNumber) as caught:
                short_at((2, 1, 0), thing)
            self.assertEqual(caught.exception.number, thing)
            self.assertIs(caught.exception.number.__class__, thing.__class__)
        self.assertRaises(NoNumber, short_at, BACK, 1100742656)
        self.assertRaises(NoNumber, short_at, (0,), 1)
        self.assertRaises(NoNumber, short_at, (0,), -1)

    def test_words_of_anything(self):
        others = [(0, 1), (0, 1, 0, 1), (1, 0), (0, 0, 0), (0, 1, 0, 0, 0), (0, 1, 2), (0, 1, "a"), (True, 0, True),
                  (0, 1, False), (0,) * 2001, ((0,), 1, 0), "010", {0: 0, 1: 1, 2: 0}]
        for thing in anything() + others:
            with self.assertRaises(NoWord) as caught:
                short_number((2, 1, 0), thing)
            self.assertEqual(caught.exception.at, -1)
        with self.assertRaises(NoWord) as caught:
            short_number((0, 1), (0, 0))
        self.assertEqual(caught.exception.at, -1)


if __name__ == "__main__":
    unittest.main()

import unittest

from passmarks import bounds
from passmarks.names import is_name
from tests.things import anything


class Names(unittest.TestCase):
    def test_one_to_eight_small_letters(self):
        for name in ("a", "z", "ab", "mark", "zzzzzzzz", "abcdefgh", "ijklmnop", "qrstuvwx", "yz"):
            self.assertIs(is_name(name), True, name)

    def test_other_texts(self):
        for text in ("", "abcdefghi", "A", "aB", "a1", "a b", " a", "a ", "a\n", "\n", "a_", "?", "`", "{",
                     "\u00e9", "\u00df", "\u0430", "a-b", "aa,", "None"):
            self.assertIs(is_name(text), False, text)

    def test_anything(self):
        names = ["a", "b", "ab", "z", "marks", "abcdefgh"]
        for thing in anything():
            self.assertIs(is_name(thing), isinstance(thing, str) and thing in names, thing)
        self.assertIs(is_name(thing=b"a"), False)


class Bounds(unittest.TestCase):
    def test_values(self):
        told = (bounds.PLACES, bounds.SHORT, bounds.MOST, bounds.HIDDEN, bounds.WORD, bounds.GONE)
        self.assertEqual(told, (60, 8, 2000, 4, 2000, 60))


if __name__ == "__main__":
    unittest.main()

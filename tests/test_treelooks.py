import random
import unittest
from itertools import product

from passmarks.treelooks import boxes_of, shows_boxes, shows_tree, tree_of
from tests.asked import all_rows_of, hidden_in, rows_by_hand, shows, some_asks, tree_shown_by_hand
from tests.things import Refusing, anything, crossing, exchange, second_given, standing, summed

# One pass and three sightings that nobody shows together, by holes with two hidden places.
ASKED = (crossing(), ("c", None, "a", None), (0, 2), [(1, 0, "a"), (2, 3, "b")])


def other_trees(table, holes, word, seen, rng, eager):
    """A tree that asks places in any order, goes on behind what is settled unless it is eager, any outs."""
    tree = []

    def grow(places, told):
        number = len(tree)
        left = [row for row in all_rows_of(table, holes) if all(row[at] == mark for at, mark in told.items())]
        outs = [at for at, sight in enumerate(seen) if not any(shows(table, row, word, sight) for row in left)]
        fits = all(shows(table, row, word, sight) for row in left for sight in seen)
        tree.append(None)
        if (outs or fits) and (eager or not places or rng.random() < 0.3):
            tree[number] = ("out", rng.choice(outs)) if outs else ("fits",)
            return number
        place = rng.choice(places)
        numbers = [grow([at for at in places if at != place], {**told, place: mark}) for mark in table.marks()]
        tree[number] = ("ask", place, tuple(numbers))
        return number
    grow(hidden_in(holes), {})
    return tree


def shuffled(tree, rng):
    """The same tree, otherwise numbered."""
    order, left = [], [0]
    while left:
        now = left.pop(rng.randrange(len(left)))
        order.append(now)
        if tree[now][0] == "ask":
            left.extend(tree[now][2])
    numbers = {old: new for new, old in enumerate(order)}
    return [tree[old] if tree[old][0] != "ask" else ("ask", tree[old][1], tuple(numbers[at] for at in tree[old][2]))
            for old in order]


def spoil(tree, holes, seen, rng):
    """A tree that is other at one place; all within are still tuples."""
    tree = list(tree)
    at = rng.randrange(len(tree))
    way = rng.randrange(7)
    if way == 0:
        tree[at] = ("fits",)
    elif way == 1:
        tree[at] = ("out", rng.randrange(-1, len(seen) + 1))
    elif way in (2, 3, 4) and tree[at][0] == "ask":
        place, numbers = tree[at][1], list(tree[at][2])
        if way == 2:
            numbers[rng.randrange(len(numbers))] = rng.randrange(len(tree) + 1)
        elif way == 3:
            rng.shuffle(numbers)
        else:
            place = rng.randrange(len(holes) + 1)
        tree[at] = ("ask", place, tuple(numbers))
    elif way == 5:
        tree.append(rng.choice(tree))
    elif way == 6:
        other = rng.randrange(len(tree))
        tree[at], tree[other] = tree[other], tree[at]
    return tree


def inside(holes, box):
    marks = iter(box)
    return [next(marks) if mark is None else mark for mark in holes]


def boxes_shown_by_hand(table, holes, word, seen, boxes):
    """A look at a list of tuples of marks or None, one for each hidden place."""
    rows = [row for box in boxes for row in all_rows_of(table, inside(holes, box))]
    return sorted(rows) == sorted(rows_by_hand(table, holes, word, seen))


class Trees(Refusing):
    def test_many(self):
        words = set()
        for asked in some_asks(1, rounds=5):
            tree = tree_of(*asked)
            self.assertIsInstance(tree, list)
            self.assertTrue(all(isinstance(node, tuple) for node in tree))
            self.assertTrue(tree_shown_by_hand(*asked, tree))
            self.assertIs(shows_tree(*asked, tree), True)
            self.assertEqual(tree_of(*asked), tree)
            words |= {node[0] for node in tree}
        self.assertEqual(words, {"ask", "out", "fits"})

    def test_by_hand(self):
        self.assertTrue(shows_tree(exchange(2), (None,), (), [(0, 0, "a")], [("ask", 0, (1, 2)), ("fits",), ("out", 0)]))
        self.assertTrue(shows_tree(exchange(2), (None,), (), [(0, 0, "a")], [("ask", 0, (2, 1)), ("out", 0), ("fits",)]))
        self.assertFalse(shows_tree(exchange(2), (None,), (), [(0, 0, "a")], [("ask", 0, (2, 1)), ("fits",), ("out", 0)]))
        self.assertFalse(shows_tree(exchange(2), (None,), (), [(0, 0, "a")], [("fits",)]))
        self.assertFalse(shows_tree(exchange(2), (None,), (), [(0, 0, "a")], [("out", 0)]))
        self.assertTrue(shows_tree(exchange(2), (None,), (), [], [("fits",)]))
        self.assertTrue(shows_tree(exchange(2), (None,), (), [], [("ask", 0, (1, 2)), ("fits",), ("fits",)]))

    def test_no_hidden_place(self):
        self.assertEqual(tree_of(exchange(2), ("a", "b"), (0,), [(1, 0, "b")]), [("fits",)])
        self.assertEqual(tree_of(exchange(2), ("a", "b"), (0,), [(1, 0, "b"), (1, 0, "a")]), [("out", 1)])
        self.assertFalse(shows_tree(exchange(2), ("a", "b"), (), [], [("ask", 0, (1, 2)), ("fits",), ("fits",)]))

    def test_six_marks_and_four_hidden_places(self):
        asked = (summed(6), (None, None, "a", None, None), (0, 1, 2, 3) * 4, [(16, 0, "c"), (9, 4, "e"), (3, 3, "a")])
        tree = tree_of(*asked)
        self.assertTrue(tree_shown_by_hand(*asked, tree))
        self.assertTrue(shows_tree(*asked, tree))

    def test_any_tree(self):
        rng = random.Random(3)
        for asked in some_asks(2, rounds=2, most=3):
            for eager in (False, True):
                tree = other_trees(*asked, rng, eager)
                self.assertTrue(tree_shown_by_hand(*asked, tree))
                self.assertTrue(shows_tree(*asked, tree))
                self.assertTrue(shows_tree(*asked, shuffled(tree, rng)))

    def test_spoilt_at_one_place(self):
        rng = random.Random(4)
        verdicts = []
        for asked in some_asks(5, rounds=3, most=3):
            for tree in (tree_of(*asked), other_trees(*asked, rng, True)):
                if len(tree) > 60:
                    continue
                for _ in range(14):
                    spoilt = spoil(tree, asked[1], asked[3], rng)
                    verdicts.append(tree_shown_by_hand(*asked, spoilt))
                    self.assertIs(shows_tree(*asked, spoilt), verdicts[-1], (asked, spoilt))
        self.assertGreater(verdicts.count(False), 500)
        self.assertGreater(verdicts.count(True), 50)

    def test_each_node_is_just_one_s(self):
        table, holes = exchange(2), (None, None)
        self.assertFalse(shows_tree(table, holes, (), [], [("ask", 0, (1, 1)), ("fits",)]))
        self.assertFalse(shows_tree(table, holes, (), [], [("ask", 0, (1, 2)), ("fits",), ("fits",), ("fits",)]))
        self.assertFalse(shows_tree(table, holes, (), [], [("fits",), ("fits",)]))
        self.assertFalse(shows_tree(table, holes, (), [], [("ask", 0, (0, 1)), ("fits",)]))
        twice = [("ask", 0, (1, 2)), ("ask", 0, (3, 4)), ("fits",), ("fits",), ("fits",)]
        self.assertFalse(shows_tree(table, holes, (), [], twice))
        self.assertTrue(shows_tree(table, holes, (), [], [twice[0], ("ask", 1, (3, 4))] + twice[2:]))
        shared = [("ask", 0, (1, 2)), ("ask", 1, (3, 4)), ("ask", 1, (4, 5))] + [("fits",)] * 3
        self.assertFalse(shows_tree(table, holes, (), [], shared))
        self.assertFalse(shows_tree(table, holes, (), [], [("ask", 0, (1, 2, 2)), ("fits",), ("fits",)]))
        self.assertFalse(shows_tree(table, holes, (), [], [("ask", 0, (1, 2)), ("fits",)]))

    def test_of_anything(self):
        table, holes, word, seen = exchange(2), (None, "a"), (0,), [(0, 0, "a"), (1, 1, "b")]
        tree = [("ask", 0, (1, 2)), ("out", 1), ("out", 0)]
        self.assertIs(shows_tree(table, holes, word, seen, tree), True)
        self.assertIs(shows_tree(thing=tree, seen=seen, word=list(word), holes=list(holes), table=table), True)
        for thing in anything() + [tuple(tree), [tree], [[node] for node in tree]]:
            self.assertIs(shows_tree(table, holes, word, seen, thing), False)
            for at in range(3):
                self.assertIs(shows_tree(table, holes, word, seen, tree[:at] + [thing] + tree[at + 1:]), False)
            for node in ((thing,), ("fits", thing), ("out", thing), ("out", 0, thing), (thing, 0),
                         ("ask", thing, (1, 2)), ("ask", 0, thing), ("ask", 0, (thing, 2)), ("ask", 0, (1, 2), thing),
                         (thing, 0, (1, 2))):
                for at in range(3):
                    if repr(node) not in (repr(tree[at]), "('ask', 0, (1, 2))"):
                        self.assertIs(shows_tree(table, holes, word, seen, tree[:at] + [node] + tree[at + 1:]), False)
        for at, node in ((1, ["out", 1]), (0, ["ask", 0, (1, 2)]), (0, ("ask", 0, [1, 2])), (0, ("ask", False, (1, 2))),
                         (0, ("ask", 0, (True, 2))), (1, ("out", True)), (2, ("out", False)), (1, ("Out", 1)),
                         (0, ("ask", 1, (1, 2))), (0, ("ask", 0, (1, 2, 3))), (0, ("ask", 0, (1,)))):
            self.assertIs(shows_tree(table, holes, word, seen, tree[:at] + [node] + tree[at + 1:]), False)

    def test_told_lists_changed_afterwards(self):
        tree_of(*ASKED).clear()
        boxes_of(*ASKED).clear()
        self.assertTrue(shows_tree(*ASKED, tree_of(table=ASKED[0], holes=ASKED[1], word=ASKED[2], seen=ASKED[3])))
        self.assertTrue(boxes_of(table=ASKED[0], holes=list(ASKED[1]), word=list(ASKED[2]), seen=tuple(ASKED[3])))


class Boxes(Refusing):
    def test_many(self):
        some = 0
        for asked in some_asks(6, rounds=5):
            boxes = boxes_of(*asked)
            self.assertIsInstance(boxes, list)
            self.assertTrue(all(isinstance(box, tuple) and len(box) == len(hidden_in(asked[1])) for box in boxes))
            self.assertTrue(boxes_shown_by_hand(*asked, boxes))
            self.assertIs(shows_boxes(*asked, boxes), True)
            some += len(boxes) > 1
        self.assertGreater(some, 10)

    def test_by_hand(self):
        table = exchange(2)
        self.assertEqual(boxes_of(table, ("a", "b"), (), []), [()])
        self.assertEqual(boxes_of(table, ("a", "b"), (), [(0, 0, "b")]), [])
        self.assertTrue(shows_boxes(table, ("a", "b"), (), [], [()]))
        self.assertFalse(shows_boxes(table, ("a", "b"), (), [], []))
        self.assertFalse(shows_boxes(table, ("a", "b"), (), [], [(), ()]))
        self.assertTrue(shows_boxes(table, ("a", "b"), (), [(0, 0, "b")], []))
        self.assertFalse(shows_boxes(table, ("a", "b"), (), [(0, 0, "b")], [()]))
        for boxes in ([(None, None)], [("a", None), ("b", None)], [(None, "b"), (None, "a")],
                      [("b", "b"), ("a", None), ("b", "a")]):
            self.assertTrue(shows_boxes(table, (None, "a", None), (), [], boxes))
        for boxes in ([("a", None), (None, "b")], [("a", None)], [(None, None), ("a", "a")],
                      [("a", None), ("b", None), ("a", None)], []):
            self.assertFalse(shows_boxes(table, (None, "a", None), (), [], boxes))
        self.assertTrue(shows_boxes(table, (None, "a", None), (), [(0, 2, "b")], [(None, "b")]))
        self.assertFalse(shows_boxes(table, (None, "a", None), (), [(0, 2, "b")], [(None, "a")]))

    def test_single_rows(self):
        for asked in some_asks(7, rounds=2):
            single = [tuple(row[at] for at in hidden_in(asked[1])) for row in rows_by_hand(*asked)]
            self.assertTrue(shows_boxes(*asked, list(reversed(single))))
            if single:
                self.assertFalse(shows_boxes(*asked, single[1:]))
                self.assertFalse(shows_boxes(*asked, single + single[:1]))

    def test_spoilt_at_one_place(self):
        rng = random.Random(8)
        verdicts = []
        for asked in some_asks(9, rounds=4):
            boxes = boxes_of(*asked)
            marks = asked[0].marks() + [None]
            for _ in range(8):
                spoilt = [list(box) for box in boxes]
                if spoilt and spoilt[0] and rng.random() < 0.7:
                    rng.choice(spoilt)[rng.randrange(len(spoilt[0]))] = rng.choice(marks)
                else:
                    spoilt.append([rng.choice(marks) for _ in hidden_in(asked[1])])
                spoilt = [tuple(box) for box in spoilt]
                verdicts.append(boxes_shown_by_hand(*asked, spoilt))
                self.assertIs(shows_boxes(*asked, spoilt), verdicts[-1], (asked, spoilt))
        self.assertGreater(verdicts.count(False), 200)
        self.assertGreater(verdicts.count(True), 5)

    def test_six_marks_and_four_hidden_places(self):
        asked = (standing(6), (None,) * 4, (), [])
        self.assertEqual(boxes_of(*asked), [(None,) * 4])
        singles = list(product("abcdef", repeat=4))
        self.assertTrue(shows_boxes(*asked, singles))
        self.assertFalse(shows_boxes(*asked, singles[:-1]))
        self.assertFalse(shows_boxes(*asked, singles + [(None,) * 4]))
        self.assertFalse(shows_boxes(*asked, [(None,) * 4] * 5000))

    def test_of_anything(self):
        table, holes, word, seen = second_given(), (None, "a", None), (1,), [(1, 1, "b")]
        boxes = [("a", "b"), ("b", "b")]
        self.assertIs(shows_boxes(thing=boxes, seen=seen, word=word, holes=holes, table=table), True)
        for thing in anything() + [tuple(boxes), [list(box) for box in boxes], {box: 1 for box in boxes}]:
            self.assertIs(shows_boxes(table, holes, word, seen, thing), False)
            self.assertIs(shows_boxes(table, holes, word, seen, boxes + [thing]), False)
            self.assertIs(shows_boxes(table, holes, word, seen, [boxes[0], ("b", "b", thing)]), False)
            if repr(thing) != "'b'":
                self.assertIs(shows_boxes(table, holes, word, seen, [boxes[0], ("b", thing)]), False)
            if repr(thing) not in ("None", "'b'"):
                self.assertIs(shows_boxes(table, holes, word, seen, [(thing, "b")]), False)
        self.assertIs(shows_boxes(table, holes, word, seen, [("a", "b"), ["b", "b"]]), False)
        self.assertIs(shows_boxes(table, holes, word, seen, [(None, "b")]), True)


if __name__ == "__main__":
    unittest.main()

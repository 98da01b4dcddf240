import random
import unittest
from itertools import product

from passmarks.errors import TooMany
from passmarks.maps import all_maps
from passmarks.maptrees import map_tree, shows_map_tree
from tests.things import (Refusing, anything, crossing, exchange, mirrored, parted, remarked, ringed, second_given,
                          standing, standing_but, summed, swap_unlike_first, two_mark_tables)

# Of six, five and four marks a tree has 1 node more than a number of sixes, fives and fours: 2000 are of none.
JUST_LESS = (standing_but(6, {"ec": "cc", "dc": "dd"}),
             standing_but(6, {"ba": "aa", "cb": "cc", "fb": "bb", "ad": "aa", "fe": "ee"}))
ONE_MORE = (standing_but(6, {"fd": "dd", "be": "bb"}),
            standing_but(5, {"ab": "aa", "ce": "ec", "ba": "bb", "ae": "aa", "ac": "aa"}))


def some_pairs():
    tables = two_mark_tables()[::17] + [
        exchange(1), exchange(2), exchange(3), standing(3), crossing(), parted(), summed(3), ringed(3, 1, 2),
        second_given(), swap_unlike_first(), remarked(crossing(), ["b", "c", "a"]), mirrored()]
    return list(product(tables[::2], tables)) + list(product(tables[-6:], tables[:6]))


def failing(one, other, way):
    """All passes of given marks that fail, rising."""
    given = dict(zip(one.marks(), way))
    return [(x, y) for x, y in product(one.marks(), repeat=2)
            if {x, y, *one.passed(x, y)} <= set(given)
            and other.passed(given[x], given[y]) != tuple(given[mark] for mark in one.passed(x, y))]


def doubled(one, way):
    """All pairs of unlike marks that are given one goal, rising."""
    given = list(zip(one.marks(), way))
    return [(x, y) for x, goal in given for y, same in given if x != y and goal == same]


def tree_by_hand(one, other, named, leaf_of=None, go_on=lambda way: False):
    """The tree, depth first: all ways are told one behind the other, and then numbered."""
    ways, left, nodes = [], [()], {}
    while left:
        way = left.pop()
        ways.append(way)
        twos, fails = doubled(one, way) if named else [], failing(one, other, way)
        leaves = [("twice",) + pair for pair in twos] + [("fails",) + pair for pair in fails]
        full = len(way) == len(one.marks())
        if leaves and (full or not go_on(way)):
            nodes[way] = leaf_of(leaves) if leaf_of else leaves[0]
        elif full:
            nodes[way] = ("map",)
        else:
            left.extend(way + (goal,) for goal in reversed(other.marks()))
    return numbered(other, ways, nodes)


def numbered(other, ways, nodes):
    numbers = {way: number for number, way in enumerate(ways)}
    return [nodes[way] if way in nodes else ("goals", tuple(numbers[way + (goal,)] for goal in other.marks()))
            for way in ways]


def shown_by_hand(one, other, tree, named):
    """A look at a tree of tuples, from node 0 on downwards."""
    met = []

    def fits(number, way):
        met.append(number)
        node = tree[number]
        if node[0] == "goals":
            numbers = node[1]
            return (len(way) < len(one.marks()) and len(numbers) == len(other.marks())
                    and all(number < below < len(tree) for below in numbers)
                    and all([fits(below, way + (goal,)) for goal, below in zip(other.marks(), numbers)]))
        if node == ("map",):
            return (len(way) == len(one.marks()) and not failing(one, other, way)
                    and not (named and doubled(one, way)))
        pairs = failing(one, other, way) if node[0] == "fails" else doubled(one, way) if named else []
        return node[1:] in pairs
    return fits(0, ()) and sorted(met) == list(range(len(tree)))


class Told(Refusing):
    def test_by_hand(self):
        self.assertEqual(map_tree(exchange(1), exchange(2)), [("goals", (1, 2)), ("map",), ("map",)])
        self.assertEqual(map_tree(exchange(1), ringed(2, 1, 1)),
                         [("goals", (1, 2)), ("fails", "a", "a"), ("fails", "a", "a")])
        self.assertEqual(map_tree(exchange(2), exchange(1)), [("goals", (1,)), ("goals", (2,)), ("map",)])
        self.assertEqual(map_tree(exchange(2), exchange(1), named=True),
                         [("goals", (1,)), ("goals", (2,)), ("twice", "a", "b")])
        self.assertEqual(map_tree(exchange(2), exchange(2), named=True),
                         [("goals", (1, 4)), ("goals", (2, 3)), ("twice", "a", "b"), ("map",),
                          ("goals", (5, 6)), ("map",), ("twice", "a", "b")])

    def test_it_is_twice_ahead_of_failing(self):
        tree = map_tree(ringed(2, 1, 0), exchange(2), named=True)
        self.assertEqual(tree[2], ("twice", "a", "b"))
        self.assertEqual(map_tree(ringed(2, 1, 0), exchange(2))[2], ("map",))
        tree = map_tree(ringed(2, 1, 0), ringed(2, 0, 0), named=True)
        self.assertEqual([node[0] for node in tree], ["goals", "goals", "twice", "fails", "goals", "fails", "twice"])

    def test_other_names_need_not_meet_all_marks(self):
        tree = map_tree(exchange(1), exchange(3), named=True)
        self.assertEqual(tree, [("goals", (1, 2, 3)), ("map",), ("map",), ("map",)])

    def test_many_tables(self):
        words = set()
        for one, other in some_pairs():
            for named in (False, True):
                tree = map_tree(one, other, named=named)
                self.assertEqual(tree, tree_by_hand(one, other, named))
                self.assertIsInstance(tree, list)
                self.assertTrue(all(isinstance(node, tuple) for node in tree))
                self.assertTrue(shows_map_tree(one, other, tree, named=named))
                words |= {node[0] for node in tree}
                if not named:
                    self.assertEqual(len(all_maps(one, other)), tree.count(("map",)))
        self.assertEqual(words, {"goals", "fails", "twice", "map"})

    def test_six_marks(self):
        table = ringed(6, 1, 2)
        for named in (False, True):
            tree = map_tree(table, table, named=named)
            self.assertEqual(tree, tree_by_hand(table, table, named))
            self.assertTrue(shows_map_tree(table, table, tree, named=named))

    def test_just_most_and_one_more(self):
        self.assertEqual(len(map_tree(*JUST_LESS)), 1999)
        self.assertEqual(map_tree(*JUST_LESS), tree_by_hand(*JUST_LESS, False))
        self.assertEqual(len(tree_by_hand(*ONE_MORE, False)), 2001)
        self.refused(TooMany(2000), map_tree, *ONE_MORE)
        self.refused(TooMany(2000), map_tree, *ONE_MORE, named=False)
        self.refused(TooMany(2000), map_tree, standing(6), standing(6))
        self.refused(TooMany(2000), map_tree, standing(6), standing(6), named=True)
        self.assertLess(len(map_tree(*ONE_MORE, named=True)), 2000)

    def test_by_names_and_told_lists_changed_afterwards(self):
        told = map_tree(named=True, other=exchange(2), one=exchange(1))
        told.clear()
        self.assertEqual(len(map_tree(exchange(1), exchange(2), named=True)), 3)
        self.assertRaises(TypeError, map_tree, exchange(1), exchange(2), True)


class Looks(Refusing):
    def test_it_refuses_no_tree_for_its_many_nodes(self):
        for tables in (ONE_MORE, (standing(6), standing(4)), (exchange(5), exchange(6))):
            tree = tree_by_hand(*tables, False)
            self.assertGreater(len(tree), 2000)
            self.assertTrue(shows_map_tree(*tables, tree))
            self.assertFalse(shows_map_tree(*tables, tree[:-1]))

    def test_whichever_pairs_and_wherever_it_goes_on(self):
        for one, other in some_pairs()[::3] + [(ringed(4, 1, 2), standing(3))]:
            for named in (False, True):
                for go_on in (lambda way: False, lambda way: True, lambda way: len(way) % 2 == 0):
                    tree = tree_by_hand(one, other, named, lambda leaves: leaves[-1], go_on)
                    self.assertTrue(shows_map_tree(one, other, tree, named=named))

    def test_however_numbered(self):
        rng = random.Random(1)
        for one, other in some_pairs()[::4] + [(ringed(4, 1, 2), standing(3))]:
            for named in (False, True):
                tree = map_tree(one, other, named=named)
                moved = shuffled(tree, rng)
                self.assertTrue(shows_map_tree(one, other, moved, named=named))

    def test_a_number_is_greater_than_its_node_s(self):
        one, other = exchange(1), exchange(2)
        self.assertTrue(shows_map_tree(one, other, [("goals", (2, 1)), ("map",), ("map",)]))
        self.assertFalse(shows_map_tree(one, other, [("goals", (0, 1)), ("map",)]))
        self.assertFalse(shows_map_tree(one, other, [("map",), ("goals", (0, 2)), ("map",)]))
        two = [("goals", (1, 2)), ("goals", (3, 4)), ("goals", (5, 6))] + [("map",)] * 4
        self.assertTrue(shows_map_tree(exchange(2), other, two))
        # Here node 1 is below node 2.
        self.assertFalse(shows_map_tree(exchange(2), other,
                                        [("goals", (2, 3)), ("map",), ("goals", (1, 4)), ("goals", (5, 6))]
                                        + [("map",)] * 3))

    def test_each_node_is_just_one_s(self):
        one, other = exchange(1), exchange(2)
        self.assertFalse(shows_map_tree(one, other, [("goals", (1, 1)), ("map",)]))
        self.assertFalse(shows_map_tree(one, other, [("goals", (1, 2)), ("map",), ("map",), ("map",)]))
        self.assertFalse(shows_map_tree(exchange(2), other, [("goals", (1, 2)), ("goals", (3, 4)), ("goals", (3, 4)),
                                                             ("map",), ("map",)]))
        shared = [("goals", (1, 2)), ("goals", (3, 4)), ("goals", (4, 5))] + [("map",)] * 3
        self.assertFalse(shows_map_tree(exchange(2), other, shared))
        self.assertFalse(shows_map_tree(one, other, [("goals", (1, 2, 2)), ("map",), ("map",)]))
        self.assertFalse(shows_map_tree(one, other, [("goals", (1, 2)), ("map",)]))

    def test_goals_of_no_further_mark(self):
        self.assertTrue(shows_map_tree(exchange(1), exchange(1), [("goals", (1,)), ("map",)]))
        self.assertFalse(shows_map_tree(exchange(1), exchange(1), [("goals", (1,)), ("goals", (2,)), ("map",)]))

    def test_spoilt_at_one_place(self):
        rng = random.Random(2)
        verdicts = []
        for one, other in some_pairs()[::5]:
            for named in (False, True):
                tree = map_tree(one, other, named=named)
                for _ in range(12):
                    spoilt = spoil(tree, one, rng)
                    if spoilt is None or spoilt == tree:
                        continue
                    verdicts.append(shown_by_hand(one, other, spoilt, named))
                    self.assertEqual(shows_map_tree(one, other, spoilt, named=named), verdicts[-1], (tree, spoilt))
        self.assertGreater(verdicts.count(False), 500)
        self.assertGreater(verdicts.count(True), 10)

    def test_marks_that_are_not_given(self):
        one, other = ringed(2, 1, 0), exchange(2)
        # The pass of a ahead of a gives b, which isn't given yet.
        self.assertFalse(shows_map_tree(one, ringed(2, 0, 0), [("goals", (1, 2)), ("fails", "a", "a"),
                                                               ("fails", "a", "a")]))
        self.assertFalse(shows_map_tree(one, other, [("goals", (1, 2)), ("map",), ("map",)]))
        self.assertFalse(shows_map_tree(exchange(2), other, [("goals", (1, 2)), ("twice", "a", "b"),
                                                             ("twice", "a", "b")], named=True))

    def test_twice_is_for_other_names_alone(self):
        one, other = exchange(2), exchange(2)
        tree = map_tree(one, other, named=True)
        self.assertTrue(shows_map_tree(one, other, tree, named=True))
        self.assertFalse(shows_map_tree(one, other, tree))
        self.assertFalse(shows_map_tree(one, other, tree, named=False))
        turned = [("twice", "b", "a") if node[0] == "twice" else node for node in tree]
        self.assertTrue(shows_map_tree(one, other, turned, named=True))
        like = [("twice", "a", "a") if node[0] == "twice" else node for node in tree]
        self.assertFalse(shows_map_tree(one, other, like, named=True))
        self.assertFalse(shows_map_tree(one, other, map_tree(one, other), named=True))

    def test_of_anything(self):
        one, other = exchange(1), exchange(2)
        tree = map_tree(one, other)
        for thing in anything() + [tuple(tree), tree + tree, [tree], [[node] for node in tree], [list(tree[0])]]:
            self.assertIs(shows_map_tree(one, other, thing), False)
            self.assertIs(shows_map_tree(one, other, thing, named=True), False)
            for at in range(3):
                self.assertIs(shows_map_tree(one, other, tree[:at] + [thing] + tree[at + 1:]), False)
            for node in ((thing,), ("map", thing), ("goals", thing), ("goals", (1, thing)), ("goals", thing, 1),
                         ("fails", thing, "a"), ("fails", "a", thing), ("twice", thing, "a"), (thing, (1, 2))):
                if repr(node) == repr(tree[0]):
                    continue
                self.assertIs(shows_map_tree(one, other, [node] + tree[1:]), False)
                self.assertIs(shows_map_tree(one, other, tree[:2] + [node], named=True), False)
        for node in (("goals", [1, 2]), ["goals", (1, 2)], ("goals", (True, 2)), ("goals", (1, 2, 3)), ("goals", (1,)),
                     ("goals",), ("goals", (1, 2), None), ("Goals", (1, 2))):
            self.assertIs(shows_map_tree(one, other, [node] + tree[1:]), False)
        self.assertIs(shows_map_tree(one, other, [tree[0], ["map"], ("map",)]), False)
        self.assertIs(shows_map_tree(named=False, thing=tree, other=other, one=one), True)
        self.assertRaises(TypeError, shows_map_tree, one, other, tree, False)


def shuffled(tree, rng):
    """The same tree, otherwise numbered."""
    order, left = [], [0]
    while left:
        now = left.pop(rng.randrange(len(left)))
        order.append(now)
        if tree[now][0] == "goals":
            left.extend(tree[now][1])
    numbers = {old: new for new, old in enumerate(order)}
    return [("goals", tuple(numbers[below] for below in tree[old][1])) if tree[old][0] == "goals" else tree[old]
            for old in order]


def spoil(tree, one, rng):
    """A tree that is other at one place; all within are still tuples."""
    tree = list(tree)
    at = rng.randrange(len(tree))
    marks = one.marks()
    way = rng.randrange(6)
    if way == 0:
        tree[at] = rng.choice([("map",), ("fails", rng.choice(marks), rng.choice(marks)),
                               ("twice", rng.choice(marks), rng.choice(marks))])
    elif way == 1 and tree[at][0] == "goals":
        numbers = list(tree[at][1])
        numbers[rng.randrange(len(numbers))] = rng.randrange(len(tree) + 1)
        tree[at] = ("goals", tuple(numbers))
    elif way == 2 and tree[at][0] == "goals":
        numbers = list(tree[at][1])
        rng.shuffle(numbers)
        tree[at] = ("goals", tuple(numbers))
    elif way == 3:
        tree.append(rng.choice(tree))
    elif way == 4:
        other = rng.randrange(len(tree))
        tree[at], tree[other] = tree[other], tree[at]
    elif way == 5:
        tree[at] = rng.choice(tree)
    return tree


if __name__ == "__main__":
    unittest.main()

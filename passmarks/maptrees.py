"""Trees of cases, which tell what maps there are from a table to another one."""

from passmarks.bounds import MOST
from passmarks.errors import TooMany
from passmarks.tables import all_pairs, all_passed
from passmarks.trees import are_below, has_word


class MapCases:
    """What a tree is asked of; a way is the goals of the first marks, as many as are given."""

    def __init__(self, one, other, named):
        self.first_marks = one.marks()
        self.goal_marks = other.marks()
        self.by_names = named
        self.twos = all_pairs(one)
        self.passed_here = all_passed(one)
        self.passed_there = all_passed(other)

    def goes_on(self, way):
        return len(way) < len(self.first_marks)

    def given(self, way):
        return {mark: goal for mark, goal in zip(self.first_marks, way)}

    def told_leaf(self, way):
        """The leaf that is told behind a way, None where it goes on."""
        given = self.given(way)
        for pair in self.twos:
            if self.by_names and _is_twice(given, pair):
                return ("twice",) + pair
        for pair in self.twos:
            if self.fails(given, pair):
                return ("fails",) + pair
        return None if self.goes_on(way) else ("map",)

    def may_end(self, way, node):
        """Whether anything is a leaf that may stand behind a way."""
        if has_word(node, "map", 0):
            return self.told_leaf(way) == node
        if has_word(node, "twice", 2):
            return self.by_names and node[1:] in self.twos and _is_twice(self.given(way), node[1:])
        return has_word(node, "fails", 2) and node[1:] in self.twos and self.fails(self.given(way), node[1:])

    def fails(self, given, pair):
        """Whether all marks of a pass are given, and the given ones pass otherwise."""
        one, other = pair
        first, second = self.passed_here[pair]
        if one not in given or other not in given or first not in given or second not in given:
            return False
        return self.passed_there[given[one], given[other]] != (given[first], given[second])


def map_tree(one, other, *, named=False):
    """The tree of cases for maps, or for those by other names, depth first."""
    tree = []
    _put_node(tree, MapCases(one, other, named), ())
    return tree


def shows_map_tree(one, other, thing, *, named=False):
    """Whether anything is a tree of cases for maps, or for those by other names."""
    if not isinstance(thing, list) or not thing:
        return False
    cases = MapCases(one, other, named)
    ways = {0: ()}
    for number, node in enumerate(thing):
        if number not in ways:
            return False
        way = ways[number]
        if has_word(node, "goals", 1):
            if not cases.goes_on(way) or not are_below(node[1], len(cases.goal_marks), number, thing, ways):
                return False
            for goal, below in zip(cases.goal_marks, node[1]):
                ways[below] = way + (goal,)
        elif not cases.may_end(way, node):
            return False
    return True


def _put_node(tree, cases, way):
    """Puts the node behind a way, and all below it; tells its number."""
    if len(tree) == MOST:
        raise TooMany(MOST)
    number = len(tree)
    tree.append(cases.told_leaf(way))
    if tree[number] is None:
        numbers = [_put_node(tree, cases, way + (goal,)) for goal in cases.goal_marks]
        tree[number] = ("goals", tuple(numbers))
    return number


def _is_twice(given, pair):
    one, other = pair
    return one != other and one in given and other in given and given[one] == given[other]

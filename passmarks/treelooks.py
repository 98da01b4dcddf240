"""Trees of cases and boxes, which tell which rows of holes show all sightings, and looks at both."""

from passmarks.begun import all_cases, boxes_for, hidden_places, rows_begun, rows_of
from passmarks.checks import is_number
from passmarks.sights import asked_taken
from passmarks.trees import are_below, has_word


def tree_of(table, holes, word, seen):
    """A tree of cases, hidden place by hidden place."""
    row, steps, sights = asked_taken(table, holes, word, seen)
    tree = []
    _put_node(tree, table.marks(), hidden_places(row), all_cases(table, row, steps, sights))
    return tree


def shows_tree(table, holes, word, seen, thing):
    """Whether anything is a tree of cases."""
    row, steps, sights = asked_taken(table, holes, word, seen)
    if not isinstance(thing, list) or not thing:
        return False
    marks = table.marks()
    # Of each node that is come to: the hidden places that aren't asked on its way, and the cases that are left.
    left = {0: (hidden_places(row), all_cases(table, row, steps, sights))}
    for number, node in enumerate(thing):
        if number not in left:
            return False
        places, cases = left[number]
        if has_word(node, "ask", 2):
            if not _is_place(node[1], places) or not are_below(node[2], len(marks), number, thing, left):
                return False
            further = [place for place in places if place != node[1]]
            for mark, below in zip(marks, node[2]):
                left[below] = (further, _cases_with(cases, node[1], mark))
        elif not _is_leaf(cases, node):
            return False
    return True


def boxes_of(table, holes, word, seen):
    """Boxes of just the rows that show all sightings."""
    row, steps, sights = asked_taken(table, holes, word, seen)
    return boxes_for(table, row, rows_begun(table, row, steps, sights))


def shows_boxes(table, holes, word, seen, thing):
    """Whether anything is a list of such boxes."""
    row, steps, sights = asked_taken(table, holes, word, seen)
    places = hidden_places(row)
    if not isinstance(thing, list) or not all([_is_box(table, places, box) for box in thing]):
        return False
    met = {}
    for box in thing:
        for inside in rows_of(table, _filled(row, places, box)):
            if inside in met:
                return False
            met[inside] = True
    fitting = rows_begun(table, row, steps, sights)
    return len(fitting) == len(met) and all([other in met for other in fitting])


def _put_node(tree, marks, places, cases):
    """Puts the node of these cases, and all below it; tells its number."""
    number = len(tree)
    tree.append(_told_leaf(cases))
    if tree[number] is None:
        place, further = places[0], places[1:]
        numbers = [_put_node(tree, marks, further, _cases_with(cases, place, mark)) for mark in marks]
        tree[number] = ("ask", place, tuple(numbers))
    return number


def _told_leaf(cases):
    """The leaf that is told of these cases, None where another place is to be asked."""
    if all([all(shown) for _, shown in cases]):
        return ("fits",)
    for number in range(len(cases[0][1])):
        if not any([shown[number] for _, shown in cases]):
            return ("out", number)
    return None


def _is_leaf(cases, node):
    """Whether anything is a leaf that may stand where these cases are left."""
    if has_word(node, "fits", 0):
        return all([all(shown) for _, shown in cases])
    if not has_word(node, "out", 1) or not is_number(node[1], 0, len(cases[0][1]) - 1):
        return False
    return not any([shown[node[1]] for _, shown in cases])


def _cases_with(cases, place, mark):
    return [case for case in cases if case[0][place] == mark]


def _is_place(thing, places):
    return len(places) > 0 and is_number(thing, 0, places[-1]) and thing in places


def _is_box(table, places, thing):
    """Whether anything is a tuple of a mark or None for each of these places."""
    if not isinstance(thing, tuple) or len(thing) != len(places):
        return False
    return all([mark is None or mark in table.marks() for mark in thing])


def _filled(row, places, box):
    """The holes with the marks of a box."""
    filled = list(row)
    for place, mark in zip(places, box):
        filled[place] = mark
    return filled

"""Rows of holes, how they go, and which of them show sightings.

What a row goes by are steps: the place of a pass, or the mark of a carrier that goes through from its beginning.
Passes gone are counted from 0, a carrier's by the places of its row. All is taken as it is, unlooked at.
"""

from passmarks.tables import all_passed


def hidden_places(holes):
    """The hidden places, rising."""
    return [place for place, mark in enumerate(holes) if mark is None]


def rows_of(table, holes):
    """All rows of the holes, rising."""
    rows = [()]
    for told in holes:
        here = table.marks() if told is None else [told]
        rows = [row + (mark,) for row in rows for mark in here]
    return rows


def many_gone(places, steps):
    """How many passes are gone behind these steps of a row."""
    return sum([places if isinstance(step, str) else 1 for step in steps])


def rows_gone(table, rows, steps):
    """For each of the rows a dict: by how many passes are gone, behind each step, the row as it stands then."""
    passed = all_passed(table)
    return [_stands(passed, row, steps) for row in rows]


def rows_behind(table, rows, steps):
    """Each of the rows as it stands behind all steps."""
    return [stands[many_gone(len(stands[0]), steps)] for stands in rows_gone(table, rows, steps)]


def all_cases(table, holes, steps, seen):
    """All rows of the holes, rising, each with what it shows: for each sighting whether it does."""
    rows = rows_of(table, holes)
    return [(stands[0], tuple([stands[gone][place] == mark for gone, place, mark in seen]))
            for stands in rows_gone(table, rows, steps)]


def rows_showing(cases, numbers):
    """The rows among these cases that show all sightings of these numbers."""
    return [row for row, shown in cases if all([shown[number] for number in numbers])]


def rows_begun(table, holes, steps, seen):
    """All rows of the holes that show all sightings, rising."""
    return rows_showing(all_cases(table, holes, steps, seen), list(range(len(seen))))


def marks_standing(table, rows, place):
    """The marks that any of these rows has at a place, in the marks' order."""
    return tuple([mark for mark in table.marks() if any([row[place] == mark for row in rows])])


def boxes_for(table, holes, rows):
    """Boxes, none in one another, of just these ones of the rows of the holes."""
    there = {row: True for row in rows}
    return _boxes(table.marks(), hidden_places(holes), rows_of(table, holes), there)


def _stands(passed, row, steps):
    now = list(row)
    gone = 0
    found = {0: row}
    for step in steps:
        if isinstance(step, str):
            now = _carried_through(passed, step, now)
            gone += len(now)
        else:
            now[step], now[step + 1] = passed[now[step], now[step + 1]]
            gone += 1
        found[gone] = tuple(now)
    return found


def _carried_through(passed, mark, row):
    """What stands in a row behind a carrier with the mark."""
    left = []
    for runner in row:
        ahead, mark = passed[mark, runner]
        left.append(ahead)
    return left


def _boxes(marks, places, rows, there):
    """Boxes, by these hidden places, of those of the rows that are there."""
    many = len([row for row in rows if row in there])
    if many == 0:
        return []
    if many == len(rows):
        return [(None,) * len(places)]
    place, further = places[0], places[1:]
    return [(mark,) + box for mark in marks
            for box in _boxes(marks, further, [row for row in rows if row[place] == mark], there)]

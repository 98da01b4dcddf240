"""Hidden marks: which rows of holes show all sightings, and what can stand in them."""

from passmarks.begun import hidden_places, marks_standing, rows_begun, rows_gone
from passmarks.errors import NoSight
from passmarks.sights import asked_taken, is_moment, is_sight


def count_begun(table, holes, word, seen):
    """How many rows of the holes show all sightings."""
    return len(all_begun(table, holes, word, seen))


def all_begun(table, holes, word, seen):
    """All rows of the holes that show all sightings, rising."""
    row, passes, sights = asked_taken(table, holes, word, seen)
    return rows_begun(table, row, passes, sights)


def marks_begun(table, holes, word, seen):
    """For each hidden place the marks that it has in any of these rows."""
    rows = all_begun(table, holes, word, seen)
    return [marks_standing(table, rows, place) for place in hidden_places(holes)]


def can_stand(table, holes, word, seen, passes, place):
    """The marks that stand at a place behind so many passes in any of these rows."""
    row, steps, sights = asked_taken(table, holes, word, seen)
    if not is_moment(row, steps, passes, place):
        raise NoSight(len(sights))
    rows = rows_begun(table, row, steps, sights)
    return marks_standing(table, [stands[passes] for stands in rows_gone(table, rows, steps)], place)


def is_sure(table, holes, word, seen, sight):
    """Whether each of these rows shows a further sighting, too."""
    row, steps, sights = asked_taken(table, holes, word, seen)
    if not is_sight(table, row, steps, sight):
        raise NoSight(len(sights))
    passes, place, mark = sight
    rows = rows_begun(table, row, steps, sights)
    return all([stands[passes][place] == mark for stands in rows_gone(table, rows, steps)])

"""Blame: sightings that no row shows together, though without any one of them some row does."""

from passmarks.begun import all_cases, rows_showing
from passmarks.checks import is_number
from passmarks.sights import asked_taken
from passmarks.treelooks import shows_tree, tree_of


def blame_of(table, holes, word, seen):
    """Numbers of such sightings, a tree of them, and for each of them a row that shows all others; None of none."""
    row, steps, sights = asked_taken(table, holes, word, seen)
    cases = all_cases(table, row, steps, sights)
    numbers = list(range(len(sights)))
    if rows_showing(cases, numbers):
        return None
    for number in range(len(sights)):
        fewer = _without(numbers, number)
        if not rows_showing(cases, fewer):
            numbers = fewer
    tree = tree_of(table, row, steps, [sights[number] for number in numbers])
    return (numbers, tree, [rows_showing(cases, _without(numbers, number))[0] for number in numbers])


def shows_blame(table, holes, word, seen, thing):
    """Whether anything is such a tuple."""
    row, steps, sights = asked_taken(table, holes, word, seen)
    if not isinstance(thing, tuple) or len(thing) != 3 or not _are_numbers(thing[0], len(sights)):
        return False
    numbers, tree, rows = thing
    cases = all_cases(table, row, steps, sights)
    if rows_showing(cases, numbers) or not _are_rows(cases, numbers, rows):
        return False
    return shows_tree(table, row, steps, [sights[number] for number in numbers], tree)


def _without(numbers, left_out):
    return [number for number in numbers if number != left_out]


def _are_numbers(thing, many):
    """Whether anything is a list of numbers of so many, rising."""
    if not isinstance(thing, list) or not all([is_number(number, 0, many - 1) for number in thing]):
        return False
    return all([one < other for one, other in zip(thing, thing[1:])])


def _are_rows(cases, numbers, thing):
    """Whether anything is a list of rows, one for each of these sightings, that show all others of them."""
    if not isinstance(thing, list) or len(thing) != len(numbers):
        return False
    return all([row in rows_showing(cases, _without(numbers, number)) for row, number in zip(thing, numbers)])

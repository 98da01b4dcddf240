"""Holes, words and sightings that the tests ask of, and what single passes tell of them."""

import random
from itertools import product

from passmarks.faults import three_fault
from tests.things import (crossing, exchange, mirrored, parted, remarked, ringed, second_given, standing, summed,
                          swap_unlike_first, two_mark_tables)


def some_tables():
    return two_mark_tables()[::23] + [
        exchange(1), exchange(3), standing(3), crossing(), mirrored(), parted(), summed(3), ringed(3, 1, 2),
        second_given(), swap_unlike_first(), remarked(crossing(), ["b", "c", "a"]), remarked(summed(3), ["c", "a", "b"])]


def some_asks(seed, rounds=2, most=4):
    """Tables, holes, words and lists of sightings; some of the lists no row shows."""
    rng = random.Random(seed)
    asks = []
    for table in some_tables():
        marks = table.marks()
        for _ in range(rounds):
            places = rng.choice((1, 2, 3, 4, 5))
            hidden = rng.sample(range(places), min(places, rng.randrange(5)))
            holes = tuple(None if at in hidden else rng.choice(marks) for at in range(places))
            word = tuple(rng.randrange(places - 1) for _ in range(rng.randrange(7))) if places > 1 else ()
            asks.append((table, holes, word, some_sights(table, holes, word, rng, most)))
    assert any(three_fault(ask[0]) for ask in asks)
    return asks


def some_sights(table, holes, word, rng, most=4):
    """Sightings that one row shows, and sometimes others among them."""
    row = rng.choice(all_rows_of(table, holes))
    sights = []
    for _ in range(rng.randrange(most + 1)):
        passes, place = rng.randrange(len(word) + 1), rng.randrange(len(holes))
        sights.append((passes, place, gone(table, row, word)[passes][place]))
    if rng.random() < 0.4:
        sights.append((rng.randrange(len(word) + 1), rng.randrange(len(holes)), rng.choice(table.marks())))
    return sights


def all_rows_of(table, holes):
    """All rows of the holes, rising."""
    return list(product(*[table.marks() if mark is None else [mark] for mark in holes]))


def gone(table, row, word):
    """The rows on the way of a word, by single passes."""
    rows = [row]
    for place in word:
        row = row[:place] + table.passed(row[place], row[place + 1]) + row[place + 2:]
        rows.append(row)
    return rows


def shows(table, row, word, sight):
    passes, place, mark = sight
    return gone(table, row, word)[passes][place] == mark


def rows_by_hand(table, holes, word, seen):
    return [row for row in all_rows_of(table, holes) if all(shows(table, row, word, sight) for sight in seen)]


def in_order(table, marks):
    return tuple(mark for mark in table.marks() if mark in marks)


def hidden_in(holes):
    return [at for at, mark in enumerate(holes) if mark is None]


def tree_shown_by_hand(table, holes, word, seen, tree):
    """A look at a tree of tuples, from node 0 on downwards."""
    met = []

    def fits(number, told):
        met.append(number)
        node = tree[number]
        left = [row for row in all_rows_of(table, holes) if all(row[at] == mark for at, mark in told.items())]
        if node == ("fits",):
            return all(shows(table, row, word, sight) for row in left for sight in seen)
        if node[0] == "out":
            return 0 <= node[1] < len(seen) and not any(shows(table, row, word, seen[node[1]]) for row in left)
        place, numbers = node[1:]
        return (place in hidden_in(holes) and place not in told and len(numbers) == len(table.marks())
                and all(number < below < len(tree) for below in numbers)
                and all([fits(below, {**told, place: mark}) for mark, below in zip(table.marks(), numbers)]))
    return fits(0, {}) and sorted(met) == list(range(len(tree)))

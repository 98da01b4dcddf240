"""Words again and again: the rows and orders that they make, and the rounds in which rows come again."""

from math import lcm

from passmarks.bounds import MOST
from passmarks.checks import row_taken, word_taken
from passmarks.errors import TooLong
from passmarks.faults import is_gentle, refuse_unless_one_one
from passmarks.kin import undone_table
from passmarks.orders import order_of, rings
from passmarks.plainrows import plain, row_of_plain
from passmarks.tables import all_passed, word_done


def row_again(table, row, word, times):
    """The row behind a word so many times, or below 0 undone so many times."""
    runners = row_taken(table, row)
    passes = word_taken(len(runners), word)
    if times < 0:
        refuse_unless_one_one(table)
    if is_gentle(table):
        plain_row = plain(table, runners)
        order = order_again(len(runners), passes, times)
        return row_of_plain(table, [plain_row[runner] for runner in order])
    if abs(times) > MOST:
        first, many = _round_by_going(table, runners, passes)
        # Where times is below 0 no two rows come to one, so that first is 0.
        times = first + (times - first) % many
    return _row_by_going(table, runners, passes, times)


def order_again(places, word, times):
    """The order that a word makes so many times, or below 0 undone so many times."""
    once = order_of(places, word)
    order = list(once)
    for ring in rings(once):
        for at, place in enumerate(ring):
            order[place] = ring[(at + times) % len(ring)]
    return tuple(order)


def round_of(table, row, word):
    """Behind how many times the row comes again and again, and each time behind how many."""
    runners = row_taken(table, row)
    passes = word_taken(len(runners), word)
    if not is_gentle(table):
        return _round_by_going(table, runners, passes)
    plain_row = plain(table, runners)
    many = 1
    for ring in rings(order_of(len(runners), passes)):
        many = lcm(many, _turns([plain_row[runner] for runner in ring]))
    return (0, many)


def _turns(marks):
    """How often at least marks in a ring are to be moved on by one until they are as before."""
    many = 1
    while marks[many:] + marks[:many] != marks:
        many += 1
    return many


def _round_by_going(table, row, word):
    passed = all_passed(table)
    met = {row: 0}
    now = row
    while len(met) <= MOST:
        now = word_done(passed, now, word)
        if now in met:
            return (met[now], len(met) - met[now])
        met[now] = len(met)
    raise TooLong(MOST)


def _row_by_going(table, row, word, times):
    if times < 0:
        return _row_by_going(undone_table(table), row, word[::-1], -times)
    passed = all_passed(table)
    for _ in range(times):
        row = word_done(passed, row, word)
    return row

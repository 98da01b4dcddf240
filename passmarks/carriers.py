"""Carriers: marks that go through rows, passing all."""

from passmarks.checks import mark_taken, row_taken


def through(table, mark, row):
    """What a carrier from ahead leaves on the row's places, and its mark behind all."""
    runners = row_taken(table, row)
    return _gone_through(table, mark_taken(table, mark), runners)


def through_from_behind(table, mark, row):
    """What stands on the row's places when all have passed a carrier from behind, and its mark ahead of all."""
    runners = row_taken(table, row)
    carried = mark_taken(table, mark)
    left = []
    for runner in reversed(runners):
        carried, behind = table.passed(runner, carried)
        left.append(behind)
    return tuple(reversed(left)), carried


def crowd_through(table, crowd, row):
    """The row and the crowd when each of the crowd has passed each of the row."""
    carriers = row_taken(table, crowd)
    left = row_taken(table, row)
    behind = []
    for carrier in reversed(carriers):
        left, mark = _gone_through(table, carrier, left)
        behind.append(mark)
    return left, tuple(reversed(behind))


def through_again(table, mark, row, times):
    """What a carrier leaves of the last one of so many such rows, and its mark behind all."""
    runners = row_taken(table, row)
    carried = mark_taken(table, mark)
    if times < 1:
        return runners, carried
    return _gone_through(table, _mark_behind(table, carried, runners, times - 1), runners)


def _gone_through(table, mark, row):
    left = []
    for runner in row:
        ahead, mark = table.passed(mark, runner)
        left.append(ahead)
    return tuple(left), mark


def _mark_behind(table, mark, row, times):
    """The carrier's mark behind so many such rows."""
    met = [mark]
    while len(met) <= times:
        mark = _gone_through(table, mark, row)[1]
        if mark in met:
            # From here on the marks come again and again, in a round.
            first = met.index(mark)
            return met[first + (times - first) % (len(met) - first)]
        met.append(mark)
    return met[times]

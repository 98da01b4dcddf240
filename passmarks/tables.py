"""Tables: what marks stand behind each pass."""

from passmarks.checks import is_listing
from passmarks.errors import NoMark, NoTable
from passmarks.names import is_name

MOST_MARKS = 6


class Table:
    """One to six marks in order, and for each two of them the pair that a pass makes."""

    def __init__(self, marks, pairs):
        if not _are_marks(marks):
            raise NoTable("marks")
        if not _are_pairs(pairs, marks):
            raise NoTable("pairs")
        self._marks = tuple(marks)
        self._pairs = tuple([tuple([tuple(pair) for pair in line]) for line in pairs])

    def __eq__(self, other):
        return isinstance(other, Table) and self._marks == other._marks and self._pairs == other._pairs

    def marks(self):
        """The marks, in order."""
        return list(self._marks)

    def pairs(self):
        """A list for each mark ahead, in it a pair for each mark behind."""
        return [list(line) for line in self._pairs]

    def passed(self, one, other):
        """What stands at the place ahead and at the one behind, after a pass of one ahead of other."""
        for mark in (one, other):
            if mark not in self._marks:
                raise NoMark(mark)
        return self._pairs[self._marks.index(one)][self._marks.index(other)]


def pass_done(table, row, place):
    """The row behind a single pass; both are taken as they are, unlooked at."""
    return row[:place] + table.passed(row[place], row[place + 1]) + row[place + 2:]


def all_pairs(table):
    """All pairs of marks, rising by the marks' order."""
    marks = table.marks()
    return [(x, y) for x in marks for y in marks]


def all_passed(table):
    """What a pass makes of each pair of marks: a dict, for those who go through very many passes."""
    return {pair: table.passed(*pair) for pair in all_pairs(table)}


def word_done(passed, row, word):
    """The row behind a word, by a dict of what passes make; all is taken as it is, unlooked at."""
    now = list(row)
    for place in word:
        now[place], now[place + 1] = passed[now[place], now[place + 1]]
    return tuple(now)


def rising(table, rows):
    """The rows, rising by the marks' order."""
    marks = table.marks()
    numbered = sorted([tuple([marks.index(mark) for mark in row]) for row in rows])
    return [tuple([marks[number] for number in numbers]) for numbers in numbered]


def _are_marks(marks):
    if not is_listing(marks) or not 1 <= len(marks) <= MOST_MARKS:
        return False
    return all([is_name(mark) for mark in marks]) and len(set(marks)) == len(marks)


def _are_pairs(pairs, marks):
    return _is_full(pairs, marks) and all([_is_line(line, marks) for line in pairs])


def _is_line(line, marks):
    return _is_full(line, marks) and all([_is_pair(pair, marks) for pair in line])


def _is_full(listing, marks):
    return is_listing(listing) and len(listing) == len(marks)


def _is_pair(pair, marks):
    return is_listing(pair) and len(pair) == 2 and all([mark in marks for mark in pair])

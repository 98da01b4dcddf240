"""Texts of tables, rows and words: words parted by one blank, rows by a line feed."""

from passmarks.bounds import PLACES, WORD
from passmarks.checks import is_number
from passmarks.errors import NoText
from passmarks.names import is_name
from passmarks.tables import MOST_MARKS, Table, all_pairs

_FIGURES = "0123456789"
_MOST_FIGURES = 60


def show_table(table):
    """A table's text."""
    rows = [show_row(["marks"] + table.marks())]
    for pair in all_pairs(table):
        rows.append(show_row(("pair",) + pair + table.passed(*pair)))
    return "\n".join(rows)


def show_row(row):
    """A row's text."""
    return " ".join(list(row))


def show_word(word):
    """A word's text."""
    return " ".join(["word"] + [str(place) for place in word])


def read_table(text):
    """The table that is so written."""
    if not isinstance(text, str):
        raise NoText(0)
    rows = text.split("\n")
    marks = marks_read(rows[0])
    if marks is None:
        raise NoText(0)
    twos = [(x, y) for x in marks for y in marks]
    found = [_pair_read(row, two, marks) for row, two in zip(rows[1:], twos)]
    if None in found:
        raise NoText(1 + found.index(None))
    if len(rows) != 1 + len(twos):
        # The first row that is missing, or the first one too many.
        raise NoText(1 + len(found))
    many = len(marks)
    return Table(marks, [found[at * many:(at + 1) * many] for at in range(many)])


def read_row(table, text):
    """The row of a table that is so written."""
    words = text.split(" ") if isinstance(text, str) else []
    marks = table.marks()
    if not 1 <= len(words) <= PLACES or not all([word in marks for word in words]):
        raise NoText(0)
    return tuple(words)


def read_word(text):
    """The word that is so written."""
    words = text.split(" ") if isinstance(text, str) else [""]
    places = [number_read(word) for word in words[1:]]
    if words[0] != "word" or len(places) > WORD or not all([is_number(place, 0, PLACES - 2) for place in places]):
        raise NoText(0)
    return tuple(places)


def marks_read(row):
    """The marks of a table's text, by its first row; None where it is none."""
    words = row.split(" ")
    marks = words[1:]
    if words[0] != "marks" or not 1 <= len(marks) <= MOST_MARKS:
        return None
    if not all([is_name(mark) for mark in marks]) or len(set(marks)) != len(marks):
        return None
    return marks


def number_read(word):
    """The number that a text's word is, None where it is none."""
    if not 1 <= len(word) <= _MOST_FIGURES or not all([figure in _FIGURES for figure in word]):
        return None
    if word[0] == "0" and len(word) > 1:
        return None
    return int(word)


def _pair_read(row, two, marks):
    """What the pass of two marks gives, by its row of a table's text; None where that is none."""
    words = row.split(" ")
    if words[:3] != ["pair", two[0], two[1]] or len(words) != 5:
        return None
    return tuple(words[3:]) if all([mark in marks for mark in words[3:]]) else None

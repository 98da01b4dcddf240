"""Texts of yards: a row for each deed, behind that of a table the table's own text."""

from passmarks.deeds import FORMS
from passmarks.errors import (Full, Needed, NoMark, NoName, NoPlace, NoRow, NoText, NoWord, Taken, Unfit, Unread,
                              Unseen)
from passmarks.names import is_name
from passmarks.texts import marks_read, number_read, read_table, show_table
from passmarks.yard import Yard

_HIDDEN = "?"


def show_yard(yard):
    """A yard's text."""
    return "\n".join([_show_deed(deed) for deed in yard.deeds()])


def read_yard(text):
    """The yard that has done, one by one, the deeds that are so written."""
    if not isinstance(text, str):
        raise Unread(-1)
    rows = text.split("\n") if text else []
    yard = Yard()
    at = 0
    while at < len(rows):
        behind = at + _many_rows(rows[at:at + 2])
        deed = deed_read(rows[at:behind])
        if deed is None or not _does(yard, deed):
            raise Unread(at)
        at = behind
    return yard


def show_marks(marks):
    """Marks parted by one blank, a sign for each hidden one."""
    return " ".join([_HIDDEN if mark is None else mark for mark in marks])


def deed_read(rows):
    """The deed that is written as just these rows; None where none is."""
    words = rows[0].split(" ")
    if words[0] not in FORMS:
        return None
    forms = FORMS[words[0]]
    if forms[-1] != "table":
        parts = parts_read(forms, words[1:])
        return None if parts is None or len(rows) > 1 else (words[0], *parts)
    parts = parts_read(forms[:-1], words[1:])
    table = _table_read(rows[1:])
    return None if parts is None or table is None else (words[0], *parts, table)


def parts_read(forms, words):
    """What the words mean, each by its form, and all further ones by the last form if it is one of many words.

    None where they aren't so written.
    """
    if forms and forms[-1] in ("holes", "places"):
        single = len(forms) - 1
        ahead = parts_read(forms[:-1], words[:single])
        listed = [_part_read(forms[-1], word) for word in words[single:]]
        return None if ahead is None or None in listed else [*ahead, _unhidden(listed)]
    parts = [_part_read(form, word) for form, word in zip(forms, words)]
    return None if len(words) != len(forms) or None in parts else parts


def _part_read(form, word):
    """What a word means by its form, None where it isn't so written; a hidden mark stays as it is written."""
    if form in ("number", "places"):
        return number_read(word)
    return word if is_name(word) or form == "holes" and word == _HIDDEN else None


def _unhidden(listed):
    return tuple([None if part == _HIDDEN else part for part in listed])


def _show_deed(deed):
    shown = [_show_part(part, form) for part, form in zip(deed[1:], FORMS[deed[0]])]
    return deed[0] + "".join(shown)


def _show_part(part, form):
    """A part of a deed, with the blank or the line feed ahead of it."""
    if form == "table":
        return "\n" + show_table(part)
    listed = part if form in ("holes", "places") else (part,)
    return "".join([" " + (_HIDDEN if one is None else str(one)) for one in listed])


def _many_rows(rows):
    """How many rows a deed's text has that begins with these: a table's by its marks."""
    marks = marks_read(rows[1]) if rows[0].split(" ")[0] in ("table", "change") and len(rows) > 1 else None
    return 1 if marks is None else 2 + len(marks) * len(marks)


def _table_read(rows):
    """The table that is written as these rows, None where none is."""
    try:
        table = read_table("\n".join(rows))
    except NoText:
        table = None
    return table


def _does(yard, deed):
    """Whether a yard does a deed."""
    try:
        yard.do(deed)
    except (Full, Needed, NoMark, NoName, NoPlace, NoRow, NoWord, Taken, Unfit, Unseen):
        return False
    return True

"""What deeds make of the tables and rows of a yard: dicts from names to them, in the order of coming.

No such dict is ever changed: each deed makes another one, so what was there is there to come back to.
"""

from passmarks.begun import hidden_places
from passmarks.bounds import GONE
from passmarks.checks import is_number
from passmarks.errors import Full, Needed, NoMark, NoName, NoPlace, NoWord, Taken, Unfit, Unseen
from passmarks.names import is_name
from passmarks.sights import MOST_SIGHTS, holes_taken
from passmarks.tables import Table
from passmarks.yardrows import PutRow, further, gone_by, looked_at, rows_first, told_at

MOST_NAMES = 20


def table_there(there, name):
    """The table of a name, which may be anything."""
    if not is_name(name) or name not in there or not isinstance(there[name], Table):
        raise NoName(name)
    return there[name]


def row_there(there, name):
    """The row of a name, which may be anything."""
    if not is_name(name) or name not in there or not isinstance(there[name], PutRow):
        raise NoName(name)
    return there[name]


def _refuse_unless_new(there, name):
    if len(there) >= MOST_NAMES:
        raise Full(MOST_NAMES)
    if name in there:
        raise Taken(name)


def _refuse_unless_place(put, place):
    if not is_number(place, 0, len(put.marks_told) - 1):
        raise NoPlace(place)


def _refuse_unless_mark(there, put, mark):
    if mark not in there[put.of_table].marks():
        raise NoMark(mark)


def _refuse_unless_begun(there, name):
    """A row of which no beginning lets all looks be is refused."""
    put = there[name]
    if not rows_first(there[put.of_table], put):
        raise Unseen(name)


def _stepped(there, name, steps):
    """What is there behind further steps of a row, if these aren't too many."""
    put = further(there[name], steps)
    if gone_by(put) > GONE:
        raise Full(GONE)
    return {**there, name: put}


def _table_comes(there, name, table):
    _refuse_unless_new(there, name)
    return {**there, name: table}


def _row_comes(there, name, of, marks):
    _refuse_unless_new(there, name)
    table = table_there(there, of)
    return {**there, name: PutRow(of, holes_taken(table, marks), (), ())}


def _pass_done(there, name, place):
    return _word_done(there, name, (place,))


def _word_done(there, name, word):
    put = row_there(there, name)
    if not word:
        raise NoWord(-1)
    for at, place in enumerate(word):
        if not is_number(place, 0, len(put.marks_told) - 2):
            raise NoWord(at)
    return _stepped(there, name, word)


def _carrier_gone(there, name, mark):
    _refuse_unless_mark(there, row_there(there, name), mark)
    return _stepped(there, name, (mark,))


def _look_taken(there, name, place, mark):
    put = row_there(there, name)
    _refuse_unless_place(put, place)
    _refuse_unless_mark(there, put, mark)
    if len(put.sights) >= MOST_SIGHTS:
        raise Full(MOST_SIGHTS)
    seen = {**there, name: looked_at(put, place, mark)}
    _refuse_unless_begun(seen, name)
    return seen


def _mark_told(there, name, place, mark):
    put = row_there(there, name)
    if place not in hidden_places(put.marks_told):
        raise NoPlace(place)
    _refuse_unless_mark(there, put, mark)
    told = {**there, name: told_at(put, place, mark)}
    _refuse_unless_begun(told, name)
    return told


def _twin_comes(there, name, other):
    _refuse_unless_new(there, other)
    # A row never changes, so both may be the very same until one of them is done something.
    return {**there, other: row_there(there, name)}


def _table_changed(there, name, table):
    if table_there(there, name).marks() != table.marks():
        raise Unfit(name)
    changed = {**there, name: table}
    for row in _rows_of(there, name):
        _refuse_unless_begun(changed, row)
    return changed


def _one_dropped(there, name):
    if name not in there:
        raise NoName(name)
    if _rows_of(there, name):
        raise Needed(name)
    return {other: there[other] for other in there if other != name}


def _rows_of(there, name):
    """The names of the rows that go by the table of this name."""
    return [row for row in there if isinstance(there[row], PutRow) and there[row].of_table == name]


_ACTIONS = {
    "table": _table_comes,
    "row": _row_comes,
    "pass": _pass_done,
    "word": _word_done,
    "carry": _carrier_gone,
    "look": _look_taken,
    "tell": _mark_told,
    "twin": _twin_comes,
    "change": _table_changed,
    "drop": _one_dropped,
}


def deed_done(there, deed):
    """What is there behind a deed, whose form is right."""
    action = _ACTIONS[deed[0]]
    parts = deed[1:]
    return action(there, *parts)

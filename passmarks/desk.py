"""Desks, which are told rows and answer with texts."""

from passmarks.copies import Changing
from passmarks.errors import NoAsk
from passmarks.yard import Yard
from passmarks.yardtexts import deed_read, parts_read, show_marks, show_yard

_NONE = "none"

_ASKS = {
    "undo": (),
    "redo": (),
    "names": (),
    "now": ("name",),
    "gone": ("name",),
    "many": ("name",),
    "can": ("name", "number"),
    "plain": ("name",),
    "apart": ("name", "name"),
    "text": (),
}


def _undo(yard):
    return "ok" if yard.undo() else _NONE


def _redo(yard):
    return "ok" if yard.redo() else _NONE


def _names(yard):
    return " ".join(yard.names()) or _NONE


def _now(yard, name):
    return show_marks(yard.now(name))


def _gone(yard, name):
    return str(yard.gone(name))


def _many(yard, name):
    return str(yard.many(name))


def _can(yard, name, place):
    return show_marks(yard.can(name, place))


def _plain(yard, name):
    return show_marks(yard.plain(name))


def _apart(yard, one, other):
    passes = yard.apart(one, other)
    return "never" if passes is None else str(passes)


def _text(yard):
    return show_yard(yard) or _NONE


_ANSWERS = {
    "undo": _undo,
    "redo": _redo,
    "names": _names,
    "now": _now,
    "gone": _gone,
    "many": _many,
    "can": _can,
    "plain": _plain,
    "apart": _apart,
    "text": _text,
}


class Desk(Changing):
    """A yard that is told and asked by rows of text."""

    def __init__(self, yard=None):
        self._yard = Yard() if yard is None else yard.own_copy()

    def __eq__(self, other):
        return isinstance(other, Desk) and self._yard == other._yard

    def own_copy(self):
        return Desk(self._yard)

    def say(self, row):
        """Does or answers what a row says."""
        if not isinstance(row, str):
            raise NoAsk(row)
        deed = deed_read(row.split("\n"))
        if deed is not None:
            self._yard.do(deed)
            return "ok"
        words = row.split(" ")
        parts = parts_read(_ASKS[words[0]], words[1:]) if words[0] in _ASKS else None
        if parts is None:
            raise NoAsk(row)
        answer = _ANSWERS[words[0]]
        return answer(self._yard, *parts)

    def yard(self):
        """A copy of the yard, with what was taken back."""
        return self._yard.own_copy()

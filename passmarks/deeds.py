"""Deeds in a yard, by their forms: a word, and what stands behind it."""

from passmarks.checks import is_listing
from passmarks.names import is_name
from passmarks.tables import Table

# Marks are asked for by their form, so these are names here, too.
FORMS = {
    "table": ("name", "table"),
    "row": ("name", "name", "holes"),
    "pass": ("name", "number"),
    "word": ("name", "places"),
    "carry": ("name", "name"),
    "look": ("name", "number", "name"),
    "tell": ("name", "number", "name"),
    "twin": ("name", "name"),
    "change": ("name", "table"),
    "drop": ("name",),
}


def deed_of(thing):
    """Anything as a deed, its lists as tuples; None where it is none."""
    if not isinstance(thing, tuple) or not thing or not isinstance(thing[0], str) or thing[0] not in FORMS:
        return None
    forms = FORMS[thing[0]]
    if len(thing) != 1 + len(forms) or not all([_is_so(part, form) for part, form in zip(thing[1:], forms)]):
        return None
    return tuple([tuple(part) if isinstance(part, list) else part for part in thing])


def _is_so(thing, form):
    if form == "name":
        return is_name(thing)
    if form == "number":
        return _is_whole(thing)
    if form == "table":
        return isinstance(thing, Table)
    if form == "places":
        return is_listing(thing) and all([_is_whole(part) for part in thing])
    return is_listing(thing) and all([part is None or is_name(part) for part in thing])


def _is_whole(thing):
    return isinstance(thing, int) and not isinstance(thing, bool)

"""Looks at ladders, and what their rungs do to rows."""

from passmarks.bounds import WORD
from passmarks.checks import is_listing, row_taken, word_taken
from passmarks.errors import NoRung
from passmarks.ladders import behind_rung, ends_taken, rung_taken
from passmarks.tables import pass_done

MOST_RUNGS = 2400


def shows_ladder(places, one, other, thing, *, short=False):
    """Whether anything is a ladder from a word to another one; where short is True, of far and turn alone."""
    now, last = ends_taken(places, one, other)
    if not isinstance(thing, list) or len(thing) > MOST_RUNGS:
        return False
    for rung in thing:
        now = behind_rung(places, now, rung)
        if now is None or len(now) > WORD:
            return False
        if short and rung[0] not in ("far", "turn"):
            return False
    return now == last


def first_unkept(table, row, word, rungs):
    """The number of the first rung behind which the word makes another row of the row, None where there is none."""
    start = row_taken(table, row)
    now = word_taken(len(start), word)
    if not is_listing(rungs):
        raise NoRung(-1)
    made = _row_made(table, start, now)
    found = None
    for number, rung in enumerate(rungs):
        # The rungs behind a found one are still gone along: each of them may be one to refuse.
        now = rung_taken(len(start), now, rung)
        if found is None and _row_made(table, start, now) != made:
            found = number
    return found


def _row_made(table, row, word):
    """The row behind a word of however many passes."""
    for place in word:
        row = pass_done(table, row, place)
    return row

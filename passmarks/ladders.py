"""Ladders: words led to one another, rung by rung."""

from passmarks.bounds import SHORT
from passmarks.checks import is_number, number_taken, places_taken, word_taken
from passmarks.errors import NoRung, NotAlike, TooLong
from passmarks.orders import order_of

MOST_PASSES = 40


def rung_done(places, word, rung):
    """The word behind a rung."""
    places_taken(places)
    return rung_taken(places, word_taken(places, word), rung)


def ladder(places, one, other):
    """Rungs that lead from a word to another one of the same order, by way of the order's told form."""
    first, last = ends_taken(places, one, other)
    there = _steps_to_told_form(places, first)
    back = _steps_to_told_form(places, last)
    return [rung for rung, _ in there] + [undoing for _, undoing in reversed(back)]


def ends_taken(places, one, other):
    """The two words of a ladder."""
    number_taken(places, 1, SHORT)
    first = word_taken(places, one)
    last = word_taken(places, other)
    if max(len(first), len(last)) > MOST_PASSES:
        raise TooLong(MOST_PASSES)
    if order_of(places, first) != order_of(places, last):
        raise NotAlike()
    return first, last


def rung_taken(places, word, rung):
    """The word behind a rung, of however many passes; both are taken ahead of it."""
    behind = behind_rung(places, word, rung)
    if behind is None:
        raise NoRung(rung)
    return behind


def behind_rung(places, word, rung):
    """The word behind anything as a rung, None where it is none or can't be done there."""
    if not _has_form(places, word, rung):
        return None
    at = rung[1]
    ahead, behind = word[:at], word[at:]
    if rung[0] == "in":
        return ahead + (rung[2], rung[2]) + behind
    if rung[0] == "far" and _are_far(behind):
        return ahead + (behind[1], behind[0]) + behind[2:]
    if rung[0] == "turn" and _are_three(behind):
        return ahead + (behind[1], behind[0], behind[1]) + behind[3:]
    if rung[0] == "out" and len(behind) >= 2 and behind[0] == behind[1]:
        return ahead + behind[2:]
    return None


def _has_form(places, word, rung):
    if not isinstance(rung, tuple) or len(rung) < 2 or not is_number(rung[1], 0, len(word)):
        return False
    if rung[0] == "in":
        return len(rung) == 3 and is_number(rung[2], 0, places - 2)
    return len(rung) == 2


def _are_far(passes):
    return len(passes) >= 2 and abs(passes[0] - passes[1]) >= 2


def _are_three(passes):
    return len(passes) >= 3 and passes[0] == passes[2] and abs(passes[0] - passes[1]) == 1


def _steps_to_told_form(places, word):
    """Rungs, each with the one that undoes it, that lead a word to the told form of its order."""
    many = [0] * places
    steps = []
    for place in word:
        steps.extend(_steps_into(many, place))
    return steps


def _steps_into(many, place):
    """Steps for a pass that stands right behind a told form, so that both are one told form.

    many tells how many passes each runner has in the told form, and is kept up.
    """
    at = sum(many)
    runner = len(many) - 1
    steps = []
    # The pass moves ahead of one runner's passes after the other, until it is one of a runner's own.
    while place not in (runner - many[runner] - 1, runner - many[runner]):
        rungs, place = _moved_ahead(at, runner, many[runner], place)
        steps.extend([(rung, rung) for rung in rungs])
        at -= many[runner]
        runner -= 1
    if place < runner - many[runner]:
        many[runner] += 1
    else:
        many[runner] -= 1
        steps.append((("out", at - 1), ("in", at - 1, place)))
    return steps


def _moved_ahead(at, runner, many, place):
    """The rungs that lead pass number at ahead of a runner's many passes, and its place then."""
    first, lowest = at - many, runner - many
    if place < lowest:
        return _far_rungs(first, at), place
    # Of the runner's passes those at place and place - 1 turn with it, so that it becomes one at place - 1.
    turn = at - 1 - (place - lowest)
    return _far_rungs(turn + 2, at) + [("turn", turn)] + _far_rungs(first, turn), place - 1


def _far_rungs(first, behind):
    """The rungs that lead the pass number behind to number first."""
    return [("far", number) for number in reversed(range(first, behind))]

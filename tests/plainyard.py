"""A plain yard, which keeps nothing but deeds and does them anew, pass by pass, whenever it is asked."""

from itertools import product

from passmarks.errors import (Full, Hidden, Needed, NoDeed, NoMark, NoName, NoPlace, NoRow, NotSided, NotThree,
                              NotTwice, NoWord, Taken, Unfit, Unseen)
from passmarks.tables import Table
from tests.asked import all_rows_of, hidden_in, in_order
from tests.things import far_by_going, ungentle


def whole(thing):
    return isinstance(thing, int) and not isinstance(thing, bool)


def name(thing):
    return isinstance(thing, str) and 1 <= len(thing) <= 8 and all("a" <= letter <= "z" for letter in thing)


def listed(thing, kind):
    return isinstance(thing, (list, tuple)) and all(kind(part) for part in thing)


KINDS = {
    "table": (name, lambda thing: isinstance(thing, Table)),
    "row": (name, name, lambda thing: listed(thing, lambda part: part is None or name(part))),
    "pass": (name, whole), "word": (name, lambda thing: listed(thing, whole)), "carry": (name, name),
    "look": (name, whole, name), "tell": (name, whole, name), "twin": (name, name),
    "change": (name, lambda thing: isinstance(thing, Table)), "drop": (name,),
}


def is_deed(thing):
    if not isinstance(thing, tuple) or not thing or not isinstance(thing[0], str) or thing[0] not in KINDS:
        return False
    kinds = KINDS[thing[0]]
    return len(thing) == len(kinds) + 1 and all(kind(part) for kind, part in zip(kinds, thing[1:]))


class PlainRow:
    def __init__(self, of, holes):
        self.of, self.holes, self.did, self.looks = of, list(holes), [], []

    def gone(self):
        return sum(len(self.holes) if isinstance(step, str) else 1 for step in self.did)

    def stands(self, table, row):
        """By passes gone, behind each step, the row as it stands."""
        row, gone = list(row), 0
        found = {0: tuple(row)}
        for step in self.did:
            if isinstance(step, str):
                carried = step
                for at, mark in enumerate(row):
                    row[at], carried = table.passed(carried, mark)
                gone += len(row)
            else:
                row[step:step + 2] = table.passed(row[step], row[step + 1])
                gone += 1
            found[gone] = tuple(row)
        return found

    def begun(self, table):
        """Each beginning with what stands now."""
        found = []
        for row in all_rows_of(table, self.holes):
            stands = self.stands(table, row)
            if all(stands[gone][place] == mark for gone, place, mark in self.looks):
                found.append((row, stands[self.gone()]))
        return found


class PlainYard:
    def __init__(self):
        self.steps, self.back = [], []

    def deeds(self):
        return [deed for step in self.steps for deed in step]

    def there(self, deeds=None):
        there = {}
        for deed in self.deeds() if deeds is None else deeds:
            do(there, deed)
        return there

    def refusal(self, deed, number=0, ahead=()):
        """What a deed is refused with behind further ones; None where it isn't."""
        if not is_deed(deed):
            return NoDeed(number)
        deeds = self.deeds() + list(ahead)
        if len(deeds) >= 200:
            return Full(200)
        return refusal(self.there(deeds), deed)

    def run(self, deeds):
        """Does all; tells the refusal, None where there is none."""
        done = []
        for number, deed in enumerate(deeds):
            error = self.refusal(deed, number, done)
            if error is not None:
                return error
            done.append(tuple(tuple(part) if isinstance(part, list) else part for part in deed))
        self.steps.append(done)
        self.back = []
        return None

    def undo(self):
        if not self.steps:
            return False
        self.back.append(self.steps.pop())
        return True

    def redo(self):
        if not self.back:
            return False
        self.steps.append(self.back.pop())
        return True


def do(there, deed):
    word, called, *rest = deed
    if word == "table":
        there[called] = rest[0]
    elif word == "row":
        there[called] = PlainRow(*rest)
    elif word == "pass":
        there[called].did.append(rest[0])
    elif word == "word":
        there[called].did.extend(rest[0])
    elif word == "carry":
        there[called].did.append(rest[0])
    elif word == "look":
        there[called].looks.append((there[called].gone(), *rest))
    elif word == "tell":
        there[called].holes[rest[0]] = rest[1]
    elif word == "twin":
        elder, twin = there[called], PlainRow(there[called].of, there[called].holes)
        twin.did, twin.looks = list(elder.did), list(elder.looks)
        there[rest[0]] = twin
    elif word == "change":
        there[called] = rest[0]
    else:
        del there[called]


def refusal(there, deed):
    """What a deed, whose form is right, is refused with; None where it isn't."""
    word, called, *rest = deed
    new = rest[0] if word == "twin" else called if word in ("table", "row") else None
    if new is not None:
        if len(there) >= 20:
            return Full(20)
        if new in there:
            return Taken(new)
    if word in ("change", "row"):
        asked = rest[0] if word == "row" else called
        if not isinstance(there.get(asked), Table):
            return NoName(asked)
    elif word == "drop":
        if called not in there:
            return NoName(called)
    elif word != "table" and not isinstance(there.get(called), PlainRow):
        return NoName(called)
    if word in ("table", "twin"):
        return None
    if word == "row":
        return row_refusal(there[rest[0]], rest[1])
    if word == "change":
        return change_refusal(there, called, rest[0])
    if word == "drop":
        rows = [row for row in there.values() if isinstance(row, PlainRow) and row.of == called]
        return Needed(called) if rows else None
    return done_refusal(there, there[called], deed)


def row_refusal(table, holes):
    if not 1 <= len(holes) <= 60:
        return NoRow(-1)
    for at, mark in enumerate(holes):
        if list(holes[:at + 1]).count(None) > 4 or mark is not None and mark not in table.marks():
            return NoRow(at)
    return None


def change_refusal(there, called, table):
    if there[called].marks() != table.marks():
        return Unfit(called)
    for other, row in there.items():
        if isinstance(row, PlainRow) and row.of == called and not row.begun(table):
            return Unseen(other)
    return None


def done_refusal(there, row, deed):
    word, called, *rest = deed
    table = there[row.of]
    if word in ("pass", "word"):
        passes = [rest[0]] if word == "pass" else list(rest[0])
        wrong = [at for at, place in enumerate(passes) if not 0 <= place < len(row.holes) - 1]
        if wrong or not passes:
            return NoWord(wrong[0] if wrong else -1)
        return Full(60) if row.gone() + len(passes) > 60 else None
    if word == "carry":
        if rest[0] not in table.marks():
            return NoMark(rest[0])
        return Full(60) if row.gone() + len(row.holes) > 60 else None
    place, mark = rest
    if place not in (range(len(row.holes)) if word == "look" else hidden_in(row.holes)):
        return NoPlace(place)
    if mark not in table.marks():
        return NoMark(mark)
    if word == "look" and len(row.looks) >= 8:
        return Full(8)
    fitting = [(first, now) for first, now in row.begun(table) if (now if word == "look" else first)[place] == mark]
    return None if fitting else Unseen(called)


def told_of(there, called):
    """All that a yard tells of a name that isn't any of several answers; refusals among it."""
    if isinstance(there[called], Table):
        return {"table": there[called]}
    row = there[called]
    table = there[row.of]
    begun = row.begun(table)
    standing = list(range(len(row.holes)))
    for step in row.did:
        if not isinstance(step, str):
            standing[step:step + 2] = standing[step + 1], standing[step]
    can = [in_order(table, {now[at] for _, now in begun}) for at in range(len(row.holes))]
    now = tuple(marks[0] if len(marks) == 1 else None for marks in can)
    return {
        "table_of": row.of, "holes": tuple(row.holes), "hidden": hidden_in(row.holes), "gone": row.gone(),
        "looks": list(row.looks), "order": tuple(standing), "many": len(begun),
        "beginnings": [first for first, _ in begun], "can": can, "now": now,
        "plain": plain_by_hand(table, now) if None not in row.holes else Hidden(called),
    }


def plain_by_hand(table, row):
    found = []
    for at, mark in enumerate(row):
        for other in row[at + 1:]:
            mark = table.passed(mark, other)[1]
        found.append(mark)
    return tuple(found)


def apart_by_hand(there, one, other):
    """The fewest passes, by going, or a refusal."""
    for called in (one, other):
        if not isinstance(there.get(called), PlainRow):
            return NoName(called)
    for called in (one, other):
        if None in there[called].holes:
            return Hidden(called)
    if there[one].of != there[other].of:
        return Unfit(other)
    table = there[there[one].of]
    error = ungentle(table)
    if error is not None:
        assert isinstance(error, (NotThree, NotSided, NotTwice))
        return error
    (_, first), = there[one].begun(table)
    (_, last), = there[other].begun(table)
    return far_by_going(table, first).get(last)


def boxes_fit(there, called, boxes):
    """Whether boxes, a list of tuples, are just of the beginnings, none in two."""
    row = there[called]
    table = there[row.of]
    hidden = hidden_in(row.holes)
    rows = []
    for box in boxes:
        if not isinstance(box, tuple) or len(box) != len(hidden):
            return False
        marks = dict(zip(hidden, box))
        rows.extend(product(*[table.marks() if mark is None else [mark]
                              for mark in (marks.get(at, mark) for at, mark in enumerate(row.holes))]))
    return sorted(rows) == [first for first, _ in sorted(row.begun(table))]

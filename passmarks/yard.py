"""Yards: tables and rows by names, what is done to them, and what is taken back."""

from passmarks.begun import boxes_for, hidden_places, marks_standing
from passmarks.checks import is_number
from passmarks.copies import Changing
from passmarks.deeds import deed_of
from passmarks.doing import deed_done, row_there, table_there
from passmarks.errors import Full, Hidden, NoDeed, NoPlace, Unfit
from passmarks.lots import fewest
from passmarks.yardrows import gone_by, plain_now, rows_first, rows_now, runners_of

MOST_DEEDS = 200


class Yard(Changing):
    """At most twenty tables and rows, by their names."""

    def __init__(self):
        # A step is a tuple of deeds that were done together; what is there is kept from ahead of each of them on.
        self._steps = []
        self._states = [{}]
        self._back = []

    def __eq__(self, other):
        # All else that is told hangs on the deeds alone.
        return isinstance(other, Yard) and self.deeds() == other.deeds()

    def own_copy(self):
        made = Yard()
        made._steps = list(self._steps)
        made._states = list(self._states)
        made._back = list(self._back)
        return made

    def do(self, deed):
        """Does a deed."""
        self.run([deed])

    def run(self, deeds):
        """Does all of a list of deeds, or none where one is refused."""
        if not isinstance(deeds, list):
            raise NoDeed(-1)
        standing = len(self.deeds())
        there = self._there()
        step = []
        for number, thing in enumerate(deeds):
            deed = deed_of(thing)
            if deed is None:
                raise NoDeed(number)
            if standing + number >= MOST_DEEDS:
                raise Full(MOST_DEEDS)
            there = deed_done(there, deed)
            step.append(deed)
        self._keep(tuple(step), there)
        self._back = []

    def undo(self):
        """Takes the last deed or run back; tells whether there was one."""
        if not self._steps:
            return False
        self._back.append((self._steps.pop(), self._states.pop()))
        return True

    def redo(self):
        """Does again what was taken back last, where nothing was done since; tells whether there was something."""
        if not self._back:
            return False
        step, there = self._back.pop()
        self._keep(step, there)
        return True

    def names(self):
        """All names, in the order of coming."""
        return list(self._there())

    def table(self, name):
        """A table."""
        return table_there(self._there(), name)

    def table_of(self, name):
        """The name of a row's table."""
        return self._row(name).of_table

    def holes(self, name):
        """A row's holes, with what was told."""
        return self._row(name).marks_told

    def hidden(self, name):
        """A row's hidden places, rising."""
        return hidden_places(self._row(name).marks_told)

    def gone(self, name):
        """How many passes are gone in a row."""
        return gone_by(self._row(name))

    def looks(self, name):
        """A row's looks, each with the passes that were gone."""
        return list(self._row(name).sights)

    def order(self, name):
        """The order of a row's runners, carriers left out."""
        return runners_of(self._row(name))

    def deeds(self):
        """All deeds that stand, in order, one by one."""
        return [deed for step in self._steps for deed in step]

    def many(self, name):
        """How many beginnings a row has."""
        return len(self.beginnings(name))

    def beginnings(self, name):
        """A row's beginnings, rising."""
        put = self._row(name)
        return rows_first(self.table(put.of_table), put)

    def boxes(self, name):
        """Boxes of a row's beginnings."""
        put = self._row(name)
        return boxes_for(self.table(put.of_table), put.marks_told, self.beginnings(name))

    def can(self, name, place):
        """The marks that can stand at a place now."""
        put = self._row(name)
        if not is_number(place, 0, len(put.marks_told) - 1):
            raise NoPlace(place)
        table = self.table(put.of_table)
        return marks_standing(table, rows_now(table, put), place)

    def now(self, name):
        """A row as it stands: the mark of each place, None where it can have several."""
        put = self._row(name)
        rows = rows_now(self.table(put.of_table), put)
        return tuple([mark if all([row[place] == mark for row in rows]) else None
                      for place, mark in enumerate(rows[0])])

    def plain(self, name):
        """The plain row of a known row as it stands."""
        put = self._row(name)
        self._refuse_unless_known(name)
        return plain_now(self.table(put.of_table), put)

    def apart(self, one, other):
        """The fewest passes from a known row to another one, as they stand; None where none lead there."""
        first = self._row(one)
        second = self._row(other)
        self._refuse_unless_known(one)
        self._refuse_unless_known(other)
        if first.of_table != second.of_table:
            raise Unfit(other)
        found = fewest(self.table(first.of_table), self.now(one), self.now(other))
        return None if found is None else len(found[0])

    def _there(self):
        """What is there now, by names."""
        return self._states[-1]

    def _row(self, name):
        return row_there(self._there(), name)

    def _keep(self, step, there):
        self._steps.append(step)
        self._states.append(there)

    def _refuse_unless_known(self, name):
        if self.hidden(name):
            raise Hidden(name)

"""Maps of rows: as what each mark comes out when it goes through, as a carrier."""

from passmarks.bounds import MOST
from passmarks.carriers import through, through_from_behind
from passmarks.errors import TooMany
from passmarks.tables import rising


def row_map(table, row, *, behind=False):
    """For each mark the one as which it comes out of a row, from ahead or from behind."""
    if behind:
        return {mark: through_from_behind(table, mark, row)[1] for mark in table.marks()}
    return {mark: through(table, mark, row)[1] for mark in table.marks()}


def all_row_maps(table, *, behind=False):
    """All maps that rows make, rising by their goals, each with a row of fewest marks that makes it."""
    marks = table.marks()
    maps = {mark: row_map(table, (mark,), behind=behind) for mark in marks}
    found = {}
    # Longer and longer rows are tried, from none at all, whose map is told only where a row makes it, too.
    ways = [(tuple(marks), ())]
    at = 0
    while at < len(ways):
        goals, row = ways[at]
        for mark in marks:
            further = tuple([maps[mark][goal] for goal in goals])
            if further not in found:
                found[further] = (mark,) + row if behind else row + (mark,)
                ways.append((further, found[further]))
        if len(found) > MOST:
            raise TooMany(MOST)
        at += 1
    return [(goals, found[goals]) for goals in rising(table, list(found))]

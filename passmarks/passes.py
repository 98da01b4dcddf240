"""What passes make of rows."""

from passmarks.checks import row_taken, word_taken
from passmarks.tables import pass_done


def row_behind(table, row, word):
    """The row behind all passes of a word."""
    return rows_on(table, row, word)[-1]


def rows_on(table, row, word):
    """The rows on the way of a word, from the row itself to that behind it."""
    rows = [row_taken(table, row)]
    for place in word_taken(len(row), word):
        rows.append(pass_done(table, rows[-1], place))
    return rows

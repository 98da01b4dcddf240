"""Names: texts of one to eight small letters."""

_LETTERS = "abcdefghijklmnopqrstuvwxyz"
_LONGEST = 8


def is_name(thing):
    """Whether anything is a name."""
    if not isinstance(thing, str) or not 1 <= len(thing) <= _LONGEST:
        return False
    return all([letter in _LETTERS for letter in thing])

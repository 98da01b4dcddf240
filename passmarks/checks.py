"""What is asked of things that are handed in, whatever they are."""


def is_listing(thing):
    """Whether anything is a list or a tuple, which may stand for one another."""
    return isinstance(thing, (list, tuple))

"""Copies of things that are handed in, so that what is kept of them never changes."""


class Changing:
    """A thing of the interface that changes, so that a copy of it is another one."""

    def own_copy(self):
        """Another one, as this one is now."""
        return self


def copied(thing):
    """The same thing, made of lists, tuples, dicts and changing things of its own."""
    if isinstance(thing, list):
        return [copied(part) for part in thing]
    if isinstance(thing, tuple):
        return tuple([copied(part) for part in thing])
    if isinstance(thing, dict):
        return {key: copied(thing[key]) for key in thing}
    if isinstance(thing, Changing):
        return thing.own_copy()
    return thing

"""Orders: which runner stands at each place."""

from passmarks.checks import is_listing, order_taken, places_taken, word_taken
from passmarks.errors import NoOrder


def order_of(places, word):
    """The order that a word makes of so many runners."""
    order = list(range(places_taken(places)))
    for place in word_taken(places, word):
        order[place], order[place + 1] = order[place + 1], order[place]
    return tuple(order)


def joined(one, other):
    """The order that a word of the one, then a word of the other make."""
    first = order_taken(one)
    if is_listing(other) and len(other) != len(first):
        raise NoOrder(-1)
    return tuple([first[place] for place in order_taken(other)])


def undone(order):
    """The order that undoes an order."""
    runners = order_taken(order)
    return tuple([runners.index(runner) for runner in range(len(runners))])


def rings(order):
    """The rings of an order: in each a runner, then the one who stands at its place, and so on."""
    found = []
    met = {}
    for first in order:
        ring = []
        runner = first
        while runner not in met:
            met[runner] = True
            ring.append(runner)
            runner = order[runner]
        if ring:
            found.append(ring)
    return found

"""All short words of an order: how many, and each by its number."""

from passmarks.checks import number_taken, order_taken, word_fault
from passmarks.errors import NoWord, TooMany
from passmarks.orders import order_of
from passmarks.words import is_short

MOST_RUNNERS = 7


def many_short(order):
    """How many short words make an order."""
    return _count(_few_taken(order), {})


def short_at(order, number):
    """The short word with a number, from 0, among all of an order, rising."""
    left = _few_taken(order)
    known = {}
    ahead = number_taken(number, 0, _count(left, known) - 1)
    word = []
    while _first_passes(left):
        place, ahead = _pass_with(left, ahead, known)
        word.append(place)
        left = _behind_pass(left, place)
    return tuple(word)


def short_number(order, word):
    """The number of a short word among all of its order."""
    left = _few_taken(order)
    if not _makes(left, word):
        raise NoWord(-1)
    known = {}
    number = 0
    for place in word:
        lesser = [other for other in _first_passes(left) if other < place]
        number += sum([_count(_behind_pass(left, other), known) for other in lesser])
        left = _behind_pass(left, place)
    return number


def _few_taken(order):
    runners = order_taken(order)
    if len(runners) > MOST_RUNNERS:
        raise TooMany(MOST_RUNNERS)
    return runners


def _makes(order, word):
    """Whether anything is a short word that makes the order."""
    places = len(order)
    return word_fault(places, word) is None and is_short(places, word) and order_of(places, word) == order


def _first_passes(order):
    """The places at which short words of an order may begin, rising."""
    return [place for place in range(len(order) - 1) if order.index(place) > order.index(place + 1)]


def _behind_pass(order, place):
    """The order that is still to be made behind a first pass, of runners numbered as they stand then."""
    other_numbers = {place: place + 1, place + 1: place}
    return tuple([other_numbers.get(runner, runner) for runner in order])


def _count(order, known):
    # Orders are come to on many ways, so the count of each is kept.
    if order not in known:
        places = _first_passes(order)
        known[order] = sum([_count(_behind_pass(order, place), known) for place in places]) if places else 1
    return known[order]


def _pass_with(order, number, known):
    """The first pass of the word with a number, and its number among the words that begin so."""
    ahead = 0
    for place in _first_passes(order):
        many = _count(_behind_pass(order, place), known)
        if number < ahead + many:
            break
        ahead += many
    return place, number - ahead

"""Words: who pass one another in them, and a short one for each order."""

from passmarks.checks import order_taken, places_taken, word_taken


def is_short(places, word):
    """Whether no two runners pass one another twice."""
    # At first the lesser of two stands ahead; so where the greater one does, they have passed before.
    return all([one < other for one, other in who_pass(places, word)])


def who_pass(places, word):
    """The two runners of each pass, the one who stood ahead first."""
    order = list(range(places_taken(places)))
    met = []
    for place in word_taken(places, word):
        one, other = order[place], order[place + 1]
        met.append((one, other))
        order[place], order[place + 1] = other, one
    return met


def told_form(order):
    """The word in which runner after runner, from 1 on, passes the lesser ones that are to stand behind it."""
    runners = order_taken(order)
    word = []
    for runner in range(1, len(runners)):
        behind = runners[runners.index(runner):]
        many = len([other for other in behind if other < runner])
        word.extend([runner - step for step in range(1, many + 1)])
    return tuple(word)

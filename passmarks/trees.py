"""What all trees of cases have alike: a list of nodes, of which each but node 0 is just one lesser node's."""

from passmarks.checks import is_number


def has_word(node, word, many):
    """Whether anything is a tuple of a word and so many things."""
    return isinstance(node, tuple) and len(node) == many + 1 and node[0] == word


def are_below(thing, many, number, tree, met):
    """Whether anything is a tuple of so many numbers of nodes, all behind this one and not yet another one's."""
    if not isinstance(thing, tuple) or len(thing) != many:
        return False
    if not all([is_number(below, number + 1, len(tree) - 1) for below in thing]):
        return False
    return len(set(thing)) == many and not any([below in met for below in thing])

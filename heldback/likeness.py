"""Likeness: whether two parts do the same in every use, and else a use that parts them."""

from heldback.bounds import sides, values_within
from heldback.cases import outcome_in, tree_over


def alike(one, other):
    """Tells whether two parts do the same in every use."""
    return parting(one, other) is None


def parting(one, other):
    """None if two parts are alike, else a use with the fewest dicts at whose end they differ."""
    cells = sorted(set(one.cells() + other.cells()))
    first = merged(tree_over(one.steps(), cells))
    second = merged(tree_over(other.steps(), cells))
    found = nearest(first, second, {}, longest(first))
    if found is None:
        return None
    many, bounds = found
    values = values_within(bounds)
    return [{cell: values.get((cell, at), 0) for cell in cells} for at in range(many)]


def merged(node):
    """The tree without the ifs that have equal sides."""
    if node[0] == "if":
        yes, no = merged(node[4]), merged(node[5])
        return yes if yes == no else (*node[:4], yes, no)
    if node[0] == "answer":
        return (*node[:3], merged(node[3]))
    return node


def longest(node):
    """The greatest number of outcomes on a way down the tree."""
    if node[0] == "if":
        return max(longest(node[4]), longest(node[5]))
    return 1 + longest(node[3]) if node[0] == "answer" else 1


def nearest(one, other, bounds, most):
    """The least number of outcomes, up to most, at whose end two trees differ, and bounds where they do; or None."""
    if most == 0 or one == other:
        return None
    if one[0] == "if":
        return nearest_beyond(one, other, bounds, most)
    if other[0] == "if":
        return nearest_beyond(other, one, bounds, most)
    unlike = where_unlike(one, other, bounds)
    if unlike is not None:
        return (1, unlike)
    if one[0] != "answer":
        return None
    found = nearest(one[3], other[3], bounds, most - 1)
    return None if found is None else (found[0] + 1, found[1])


def nearest_beyond(node, other, bounds, most):
    """The same as nearest, for an if and another tree."""
    below, beyond = sides(bounds, node[1], node[2], node[3])
    best = None
    for within, side in ((below, node[4]), (beyond, node[5])):
        found = None if within is None else nearest(side, other, within, most)
        if found is not None:
            best = found
            # From here on only a difference at an earlier outcome is of use.
            most = found[0] - 1
    return best


def where_unlike(one, other, bounds):
    """The bounds where two nodes that are no ifs tell different outcomes, or None."""
    end, words, cells = outcome_in(one)
    if (end, words) != outcome_in(other)[:2]:
        return bounds
    for told, rival in zip(cells, outcome_in(other)[2]):
        if told != rival:
            unlike = where_other(told, rival, bounds)
            if unlike is not None:
                return unlike
    return None


def where_other(told, rival, bounds):
    """The bounds where two triples (cell, source, n) stand for different numbers, or None."""
    less = sides(bounds, told[1], rival[1], rival[2] - told[2])[0]
    return less if less is not None else sides(bounds, rival[1], told[1], told[2] - rival[2])[0]

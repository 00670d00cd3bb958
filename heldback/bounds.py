"""Bounds: what is known of the integers that sources can stand for.

A source is None, which stands for 0, or a pair (cell, k). BOUNDS are a dict from
pairs (one, other) of sources to the greatest number that one minus other can be;
a pair that is missing has none. They are always as narrow as they can be: what
follows from several of them stands in them, too. So one look tells what fits.
"""


def can_be(bounds, one, other, n):
    """Tells whether one can be at most other plus n."""
    if one == other:
        return n >= 0
    back = bounds.get((other, one))
    return back is None or back + n >= 0


def at_most(bounds, one, other, n):
    """The bounds where one is at most other plus n besides; None if no integers fit them."""
    if not can_be(bounds, one, other, n):
        return None
    most = bounds.get((one, other))
    if one == other or (most is not None and most <= n):
        return bounds
    made = {pair: bounds[pair] for pair in bounds}
    ends = [(pair[1], bounds[pair]) for pair in bounds if pair[0] == other] + [(other, 0)]
    for start, ahead in [(pair[0], bounds[pair]) for pair in bounds if pair[1] == one] + [(one, 0)]:
        for end, behind in ends:
            narrow(made, start, end, ahead + n + behind)
    return made


def narrow(bounds, one, other, n):
    """Notes that one is at most other plus n, if this was not known."""
    most = bounds.get((one, other))
    if one != other and (most is None or n < most):
        bounds[one, other] = n


def sides(bounds, one, other, n):
    """The bounds where one is less than other plus n, and those where it is not; None where no integers fit."""
    return at_most(bounds, one, other, n - 1), at_most(bounds, other, one, -n)


def values_within(bounds):
    """A dict with an integer for each source in the bounds, which fit them."""
    values = {None: 0}
    for source in [end for pair in bounds for end in pair]:
        if source not in values:
            values[source] = value_beside(bounds, values, source)
    return values


def value_beside(bounds, values, source):
    """The integer nearest to 0 that a source can be beside the values of others."""
    least = [values[other] - bounds[other, source] for other in values if (other, source) in bounds]
    most = [values[other] + bounds[source, other] for other in values if (source, other) in bounds]
    return min([max([0, *least]), *most])

"""Piles of layers, and the tables of what they put back."""

from heldback.errors import BadPile
from heldback.kinds import is_list, is_name
from heldback.tables import Table


def of_pile(layers):
    """The table of a pile."""
    places = {}
    for index, layer in enumerate(layers):
        if not is_layer(layer) or (layer[0], layer[1]) in places:
            raise BadPile(index)
        places[layer[0], layer[1]] = index
    cells = [name for kind, name in places if kind == "cell"]
    ways = [name for kind, name in places if kind == "way"]
    behind = [(cell, way) for cell in cells for way in ways if places["cell", cell] > places["way", way]]
    return Table(cells, ways, behind)


def is_layer(thing):
    """Tells whether an object is a layer."""
    return is_list(thing) and len(thing) == 2 and thing[0] in ("cell", "way") and is_name(thing[1])


def piled(table):
    """The least pile that has this table, or None."""
    left = [("cell", cell) for cell in table.cells()] + [("way", way) for way in table.ways()]
    pile = []
    while left:
        free = [layer for layer in left if not any([is_ahead(table, other, layer) for other in left])]
        if not free:
            return None
        # What comes first in the order of lists is as small as can be, whatever comes behind it.
        pile.append(free[0])
        left.remove(free[0])
    return pile


def is_ahead(table, one, other):
    """Tells whether the one layer stands ahead of the other one in all piles of the table."""
    if one[0] == other[0]:
        return False
    if one[0] == "way":
        return table[other[1], one[1]]
    return not table[one[1], other[1]]


def crossing(table):
    """The least tuple of two cells and two ways each of which puts back just one of the two, or None."""
    for cell in table.cells():
        for other in table.cells():
            ways = ways_of_one(table, cell, other)
            overs = ways_of_one(table, other, cell)
            if ways and overs:
                return (cell, other, ways[0], overs[0])
    return None


def ways_of_one(table, cell, other):
    """The ascending list of the ways in which a cell is put back, but not the other one."""
    return [way for way in table.ways() if table[cell, way] and not table[other, way]]

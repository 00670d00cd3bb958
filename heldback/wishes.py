"""Wishes: whether some use of a part says a word, ends in a way, does a step and the like."""

from heldback.bounds import at_most, sides, values_within
from heldback.cases import outcome_in, tree_over
from heldback.errors import BadWish
from heldback.kinds import is_integer, is_list, is_name
from heldback.likeness import longest
from heldback.steps import frozen, is_path, paths_in, rebuilt, step_at, with_rows

ANSWER = ("answer",)

# What stands in a wish behind its word, item by item.
WISHES = {
    "says": ("name",),
    "ends": ("end",),
    "answers": ("count",),
    "less": ("name", "number"),
    "below": ("name", "name", "number"),
    "does": ("path",),
}

# The word of the say step ahead of the step that is wished for; no name, so no step of a part says it.
MARK = "the step"


def fulfilled(part, wish):
    """None if no use fulfils the wish, else a use with the fewest dicts that does, at its last outcome."""
    if not is_wish(wish):
        raise BadWish()
    rows = part.steps()
    wish = frozen(wish)
    if wish[0] == "does":
        step = step_at(rows, wish[1])
        if step is None:
            return None
        rows = with_rows(rows, wish[1], (("say", MARK), step))
        wish = ("says", MARK)
    cells = sorted(set(part.cells() + cells_of(wish)))
    found = soonest(tree_over(rows, cells), wish, {}, 1)
    if found is None:
        return None
    many, bounds = found
    values = values_within(bounds)
    return [{cell: values.get((cell, at), 0) for cell in cells} for at in range(many)]


def is_wish(thing):
    """Tells whether an object is a wish."""
    if not is_list(thing) or len(thing) == 0 or not isinstance(thing[0], str) or thing[0] not in WISHES:
        return False
    form = WISHES[thing[0]]
    return len(thing) == len(form) + 1 and all([is_wished(kind, item) for kind, item in zip(form, thing[1:])])


def is_wished(kind, thing):
    """Tells whether an object may stand in a wish where WISHES has this kind."""
    if kind == "name":
        return is_name(thing)
    if kind == "end":
        return is_end(thing)
    if kind == "path":
        return is_path(thing) and all([at >= 0 for at in thing])
    return is_integer(thing) and (kind == "number" or thing >= 1)


def is_end(thing):
    """Tells whether an object is an answer or an end that an outcome can have."""
    if not is_list(thing) or len(thing) == 0:
        return False
    if thing[0] == "fault":
        return len(thing) == 2 and is_name(thing[1])
    return len(thing) == 1 and thing[0] in ("answer", "none")


def cells_of(wish):
    """The list of the cells that a wish names."""
    return [item for kind, item in zip(WISHES[wish[0]], wish[1:]) if kind == "name" and wish[0] != "says"]


def soonest(node, wish, bounds, at):
    """The least number of outcomes at whose end the wish is fulfilled, and bounds where it is; or None.

    The node is that of the outcome with the number at.
    """
    if node[0] == "if":
        below, beyond = sides(bounds, node[1], node[2], node[3])
        found = [soonest(node[4], wish, below, at), soonest(node[5], wish, beyond, at)]
        return min([pair for pair in found if pair is not None], key=lambda row: row[0], default=None)
    met = where_met(node, wish, bounds, at)
    if met is not None:
        return (at, met)
    return soonest(node[3], wish, bounds, at + 1) if node[0] == "answer" else None


def where_met(node, wish, bounds, at):
    """The bounds where the outcome of a node, the one with the number at, fulfils the wish, or None."""
    end, words, cells = outcome_in(node)
    if wish[0] in ("less", "below"):
        return where_less(cells, wish, bounds) if end == ANSWER else None
    if wish[0] == "says":
        met = wish[1] in words
    elif wish[0] == "ends":
        met = end == wish[1]
    else:
        # All outcomes ahead of another one are answers.
        met = end == ANSWER and at == wish[1]
    return bounds if met else None


def where_less(cells, wish, bounds):
    """The bounds where the cell of a less or below wish is as it says, or None."""
    values = {cell: (source, n) for cell, source, n in cells}
    one, many = values[wish[1]]
    other, more = values[wish[2]] if wish[0] == "below" else (None, 0)
    return at_most(bounds, one, other, wish[-1] + more - many - 1)


def dead(part):
    """The ascending list of the paths of all steps that no use does."""
    rows = part.steps()
    marked = rebuilt(rows, lambda path, step: (("say", path), step))
    done = {path: True for path in words_below(tree_over(marked, part.cells()))}
    return [path for path, step in paths_in(rows) if path not in done]


def words_below(node):
    """The list of the words of all outcomes from a node on."""
    if node[0] == "if":
        return words_below(node[4]) + words_below(node[5])
    words = outcome_in(node)[1]
    return words + words_below(node[3]) if node[0] == "answer" else words


def most_answers(part):
    """The greatest number of answers that a use can have."""
    # Behind the last answer there is always an end.
    return longest(tree_over(part.steps(), part.cells())) - 1

"""All ways that a part can go, whatever its use, told in another way than the package does.

Each way is gone anew from its beginning, by the model of [9], with a list of decisions; and whether integers fit is
found out from the bare list of what they must fit, by going over it again and again.
"""

from model import Model


class Undecided(Exception):

    def __init__(self, one, other, n):
        super().__init__("a test for which there is no decision")
        self.test = (one, other, n)


class Way(Model):
    """A run whose cells have pairs (source, n) as values; its tests go as the decisions say."""

    def __init__(self, steps, cells, decisions):
        super().__init__(steps, {cell: ((cell, 0), 0) for cell in cells})
        self.decisions = list(decisions)

    def decide(self, one, other, n):
        if one == other:
            return 0 < n
        if not self.decisions:
            raise Undecided(one, other, n)
        return self.decisions.pop(0)

    def do_set(self, step, onward, faults, choices):
        self.worth[step[1]] = (None, step[2])
        return onward(choices)

    def do_add(self, step, onward, faults, choices):
        return self.do_copy(("copy", step[1], step[1], step[2]), onward, faults, choices)

    def do_copy(self, step, onward, faults, choices):
        source, n = self.worth[step[2]]
        self.worth[step[1]] = (source, n + step[3])
        return onward(choices)

    def do_less(self, step, onward, faults, choices):
        _, cell, n, yes, no = step
        source, many = self.worth[cell]
        return self.go(yes if self.decide(source, None, n - many) else no, onward, faults, choices)

    def do_below(self, step, onward, faults, choices):
        _, cell, other, n, yes, no = step
        (one, many), (two, more) = self.worth[cell], self.worth[other]
        return self.go(yes if self.decide(one, two, n + more - many) else no, onward, faults, choices)


def gone(steps, cells, decisions):
    """The outcomes (end, words, triples) of the way, and the test at which the decisions are used up, or None."""
    way = Way(steps, cells, decisions)
    found = []
    try:
        while not found or found[-1][0] == ("answer",):
            before = len(way.words)
            if found:
                way.worth = {cell: ((cell, len(found)), 0) for cell in cells}
            end = way.answer()
            triples = [(cell, *way.worth[cell]) for cell in sorted(cells)]
            found.append((end, way.words[before:], triples))
    except Undecided as undecided:
        return found, undecided.test
    return found, None


def fitting_values(bounds):
    """Integers for the sources for which one is at most other plus n, for each (one, other, n); None if none fit."""
    values = {None: 0}
    for one, other, n in bounds:
        values[one] = values[other] = 0
    for _ in range(len(values) + 1):
        changed = False
        for one, other, n in bounds:
            if values[one] > values[other] + n:
                values[one] = values[other] + n
                changed = True
        if not changed:
            return {source: value - values[None] for source, value in values.items()}
    return None


def bound_of(one, other, n, side):
    return (one, other, n - 1) if side else (other, one, -n)


def tree_again(steps, cells, decisions=(), bounds=(), told=0):
    """The tree of the steps, from behind the decisions on, where so many outcomes were told before."""
    found, test = gone(steps, cells, decisions)
    node = None
    if test is not None:
        sides = [side for side in (True, False) if fitting_values([*bounds, bound_of(*test, side)]) is not None]
        inner = [tree_again(steps, cells, (*decisions, side), (*bounds, bound_of(*test, side)), len(found))
                 for side in sides]
        node = inner[0] if len(sides) == 1 else ("if", *test, *inner)
    for end, words, triples in reversed(found[told:]):
        node = ("answer", words, triples, node) if end == ("answer",) else (*end, words, triples)
    return node


def ways_down(node, bounds=(), outcomes=()):
    """The pairs (bounds, outcomes) of all ways down a tree."""
    if node[0] == "if":
        test = node[1:4]
        return (ways_down(node[4], (*bounds, bound_of(*test, True)), outcomes)
                + ways_down(node[5], (*bounds, bound_of(*test, False)), outcomes))
    if node[0] == "answer":
        return ways_down(node[3], bounds, (*outcomes, (("answer",), node[1], node[2])))
    return [(bounds, (*outcomes, (node[:-2], node[-2], node[-1])))]


def use_on(way, cells):
    """A use that goes this way, and sets all cells each time."""
    bounds, outcomes = way
    values = fitting_values(bounds)
    return [{cell: values.get((cell, at), 0) for cell in cells} for at in range(len(outcomes))]


def unlike_at(one, other):
    """The number of the first outcome at which two parts, whose ways these are, can differ on them, or None."""
    bounds = one[0] + other[0]
    if fitting_values(bounds) is None:
        return None
    for at, (told, rival) in enumerate(zip(one[1], other[1]), start=1):
        if told[:2] != rival[:2]:
            return at
        for (_, first, n), (_, second, m) in zip(told[2], rival[2]):
            for bound in ((first, second, m - n - 1), (second, first, n - m - 1)):
                if first == second and bound[2] < 0:
                    continue
                if fitting_values([*bounds, bound]) is not None:
                    return at
    return None


def parted_at(one, other):
    """The least number of dicts of a use for which two lists of steps differ at the last outcome, or None."""
    cells = sorted({cell for steps in (one, other) for cell in cells_named(steps)})
    ways = [ways_down(tree_again(steps, cells)) for steps in (one, other)]
    found = [unlike_at(first, second) for first in ways[0] for second in ways[1]]
    return min([at for at in found if at is not None], default=None)


def cells_named(thing):
    """The cells that steps name, each perhaps several times."""
    if not thing:
        return []
    if isinstance(thing[0], (list, tuple)):
        return [cell for step in thing for cell in cells_named(step)]
    word, *items = thing
    found = items[:2] if word in ("copy", "below") else items[:1] if word in ("set", "add", "less") else []
    held = items[1] if word == "catch" else items[0] if word in ("either", "whether", "each") else []
    inner = [cell for item in items if isinstance(item, (list, tuple)) and item is not held
             for cell in cells_named(item)]
    return found + list(held) + inner


def worth_again(source, use, answers):
    """[13]: what a source stands for; answers are the lists of the pairs of the answers so far."""
    if source is None:
        return 0
    cell, at = source
    if cell in use[at]:
        return use[at][cell]
    if at == 0:
        return 0
    before = [value for name, value in answers[at - 1] if name == cell]
    return before[0] if before else worth_again((cell, at - 1), use, answers)


def followed_again(node, use, answers=()):
    """[13]: the outcomes that a tree tells of a use, from a node on, below these answers."""
    if len(answers) == len(use):
        return []
    if node[0] == "if":
        _, one, other, n, yes, no = node
        less = worth_again(one, use, answers) - worth_again(other, use, answers) < n
        return followed_again(yes if less else no, use, answers)
    words, triples = (node[1], node[2]) if node[0] == "answer" else (node[-2], node[-1])
    pairs = [(cell, worth_again(source, use, answers) + n) for cell, source, n in triples]
    if node[0] == "answer":
        return [(list(words), ("answer",), pairs)] + followed_again(node[3], use, (*answers, pairs))
    return [(list(words), tuple(node[:-2]), pairs)]

"""[17] to [20], [22], told in another way than the package does: upon the model of [9] and the ways of ways.py."""

import itertools

from model import Model
from samples import all_paths, lists_within
from ways import Undecided, Way, bound_of, cells_named, fitting_values, parted_at


def with_own_steps(steps):
    """The steps, each one an object of its own, so that it can be told from equal ones."""
    return [[*step[:len(step) - len(lists_within(step))], *[with_own_steps(rows) for rows in lists_within(step)]]
            for step in steps]


class Watched(Way):
    """A way that notes which steps are done."""

    def __init__(self, steps, cells, decisions):
        super().__init__(steps, cells, decisions)
        self.done = []

    def go(self, steps, onward, faults, choices):
        if steps:
            self.done.append(id(steps[0]))
        return super().go(steps, onward, faults, choices)


class WatchedModel(Model):
    """A run that notes which steps are done."""

    done = ()

    def go(self, steps, onward, faults, choices):
        if steps:
            self.done = (*self.done, id(steps[0]))
        return super().go(steps, onward, faults, choices)


def all_ways(steps, cells, decisions=(), bounds=()):
    """The pairs (bounds, outcomes) of all ways; an outcome is (end, words, triples, steps that were done)."""
    way = Watched(steps, cells, decisions)
    found = []
    try:
        while not found or found[-1][0] == ("answer",):
            words, done = len(way.words), len(way.done)
            if found:
                way.worth = {cell: ((cell, len(found)), 0) for cell in cells}
            end = way.answer()
            found.append((end, way.words[words:], dict(way.worth), way.done[done:]))
    except Undecided as undecided:
        test = undecided.test
    else:
        return [(bounds, found)]
    ways = []
    for side in (True, False):
        more = (*bounds, bound_of(*test, side))
        if fitting_values(more) is not None:
            ways += all_ways(steps, cells, (*decisions, side), more)
    return ways


def wish_cells(wish):
    return {"less": wish[1:2], "below": wish[1:3]}.get(wish[0], ())


def step_with(steps, path):
    """The step at a path, or None."""
    found = [step for place, step in all_paths(steps) if place == tuple(path)]
    return found[0] if found else None


def can_meet(bounds, outcome, at, wish, steps):
    """Whether the outcome with this number can fulfil the wish, on a way within these bounds."""
    end, words, worth, done = outcome
    if wish[0] in ("less", "below"):
        (one, n), (other, m) = worth[wish[1]], worth[wish[2]] if wish[0] == "below" else (None, 0)
        if end != ("answer",):
            return False
        most = m + wish[-1] - n
        return most > 0 if one == other else fitting_values([*bounds, (one, other, most - 1)]) is not None
    return meets(end, words, {}, done, at, wish, steps)


def meets(end, words, worth, done, at, wish, steps):
    """Whether what a run told fulfils the wish."""
    kind, *items = wish
    if kind == "says":
        return items[0] in words
    if kind == "ends":
        return end == tuple(items[0])
    if kind == "answers":
        return end == ("answer",) and at == items[0]
    if kind == "does":
        step = step_with(steps, items[0])
        return step is not None and id(step) in done
    other = worth.get(items[1], 0) if kind == "below" else 0
    return end == ("answer",) and worth.get(items[0], 0) < other + items[-1]


def fewest_dicts(steps, wish):
    """The fewest dicts of a use that fulfils the wish, or None; the steps have to be objects of their own."""
    ways = all_ways(steps, sorted({*cells_named(steps), *wish_cells(wish)}))
    return min([at for bounds, outcomes in ways for at, outcome in enumerate(outcomes, start=1)
                if can_meet(bounds, outcome, at, wish, steps)], default=None)


def fulfils(steps, use, wish):
    """Whether a use fulfils the wish at its last outcome, and has a dict for each outcome."""
    cells = {*cells_named(steps), *[cell for setting in use for cell in setting]}
    model = WatchedModel(steps, {cell: 0 for cell in cells})
    end = ("answer",)
    for setting in use:
        if end != ("answer",):
            return False
        words, done = len(model.words), len(model.done)
        model.worth.update(setting)
        end = model.answer()
    return meets(end, model.words[words:], model.worth, model.done[done:], len(use), wish, steps)


def dead_again(steps):
    """The paths of the steps that are done on no way; the steps have to be objects of their own."""
    done = {step for _, outcomes in all_ways(steps, sorted(set(cells_named(steps)))) for row in outcomes for step in row[3]}
    return [path for path, step in all_paths(steps) if id(step) not in done]


def most_answers_again(steps):
    ways = all_ways(steps, sorted(set(cells_named(steps))))
    return max(sum(row[0] == ("answer",) for row in outcomes) for _, outcomes in ways)


HOLDERS = {"catch": 2, "either": 1, "whether": 1, "each": 1}


def saves_again(steps):
    return sorted((path, cell) for path, step in all_paths(steps) if step[0] in HOLDERS
                  for cell in step[HOLDERS[step[0]]])


def holding(steps, held, ahead=()):
    """The steps, where held(path, step) tells what each step that holds cells holds."""
    made = []
    for at, step in enumerate(steps):
        path = ahead + (at,)
        lists = lists_within(step)
        head = list(step[:len(step) - len(lists)])
        if step[0] in HOLDERS:
            head[HOLDERS[step[0]]] = tuple(held(path, step))
        made.append((*head, *[holding(rows, held, path + (number,)) for number, rows in enumerate(lists)]))
    return tuple(made)


def keeping_again(steps, kept):
    return holding(steps, lambda path, step: [cell for cell in step[HOLDERS[step[0]]] if (path, cell) in kept])


def needless_again(steps):
    own = saves_again(steps)
    return [save for save in own if parted_at(steps, keeping_again(steps, [row for row in own if row != save])) is None]


def least_saves_again(steps):
    own = saves_again(steps)
    enough = [list(kept) for many in range(len(own) + 1) for kept in itertools.combinations(own, many)
              if parted_at(steps, keeping_again(steps, kept)) is None]
    return min(enough, key=lambda kept: (len(kept), kept))


def way_again(step):
    return step[1] if step[0] == "catch" else "back"


def by_squares(steps, squares):
    """The steps that put back these squares."""
    return holding(steps, lambda path, step: sorted(cell for cell, way in squares if way == way_again(step)))

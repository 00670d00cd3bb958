"""Steps, the lists of steps in them, and their paths.

ROWS are steps that were checked and frozen: tuples of steps, tuples throughout.
"""

from heldback.kinds import is_integer, is_list, is_name

# What stands in a step behind its word, item by item.
FORMS = {
    "say": ("word",),
    "set": ("cell", "number"),
    "add": ("cell", "number"),
    "copy": ("cell", "cell", "number"),
    "less": ("cell", "number", "list", "list"),
    "below": ("cell", "cell", "number", "list", "list"),
    "times": ("repeats", "list"),
    "fault": ("stop",),
    "catch": ("stop", "held", "list", "list"),
    "last": ("list", "list"),
    "back": (),
    "either": ("held", "list", "list"),
    "whether": ("held", "list", "list", "list"),
    "each": ("held", "list", "list"),
    "hole": (),
}


def is_held(thing):
    """Tells whether an object is a list of names without duplicates."""
    return is_list(thing) and all([is_name(cell) for cell in thing]) and len(set(thing)) == len(thing)


def is_item(kind, thing):
    """Tells whether an object may stand in a step where FORMS has this kind."""
    if kind == "list":
        return is_list(thing)
    if kind == "held":
        return is_held(thing)
    if kind == "number":
        return is_integer(thing)
    if kind == "repeats":
        return is_integer(thing) and 0 <= thing <= 3
    # "back" is the way back to a choice, so no fault may have this word.
    if kind == "stop":
        return is_name(thing) and thing != "back"
    return is_name(thing)


def is_step(thing):
    """Tells whether an object is a step, whatever stands in its lists."""
    if not is_list(thing) or len(thing) == 0:
        return False
    word = thing[0]
    if not isinstance(word, str) or word not in FORMS:
        return False
    form = FORMS[word]
    if len(thing) != len(form) + 1:
        return False
    return all([is_item(kind, item) for kind, item in zip(form, thing[1:])])


def items_of(step, wanted):
    """The list of the items of a step that have the wanted kind."""
    return [item for kind, item in zip(FORMS[step[0]], step[1:]) if kind == wanted]


def lists_of(step):
    """The list of the lists of a step, as they are counted in paths."""
    return items_of(step, "list")


def first_wrong(things):
    """The path of the first thing that is not a step, or None."""
    for at, thing in enumerate(things):
        if not is_step(thing):
            return (at,)
        inner = first_wrong_within(thing)
        if inner is not None:
            return (at, *inner)
    return None


def first_wrong_within(step):
    """The way from a step to the first thing in its lists that is not a step, or None."""
    for at, things in enumerate(lists_of(step)):
        inner = first_wrong(things)
        if inner is not None:
            return (at, *inner)
    return None


def frozen(thing):
    """The thing with tuples in the place of all its lists."""
    if is_list(thing):
        return tuple([frozen(item) for item in thing])
    return thing


def paths_in(rows, ahead=()):
    """The ascending list of the pairs (path, step) of the steps at all depths."""
    found = []
    for at, step in enumerate(rows):
        path = (*ahead, at)
        found.append((path, step))
        for number, inner in enumerate(lists_of(step)):
            found.extend(paths_in(inner, (*path, number)))
    return found


def all_steps(rows):
    """The list of the steps at all depths, each one ahead of those in its lists."""
    return [step for path, step in paths_in(rows)]


def all_items(rows, wanted):
    """The list of the items of the wanted kind in the steps at all depths."""
    return [item for step in all_steps(rows) for item in items_of(step, wanted)]


def cells_in(rows):
    """The ascending list of the cells that the steps name, held ones too."""
    held = [cell for cells in all_items(rows, "held") for cell in cells]
    return sorted(set(all_items(rows, "cell") + held))


def is_path(thing):
    """Tells whether an object has the form of a path."""
    return is_list(thing) and len(thing) % 2 == 1 and all([is_integer(at) for at in thing])


def item_at(things, at):
    """The thing at an index, or None where there is none."""
    return things[at] if 0 <= at < len(things) else None


def step_at(rows, path):
    """The step at a path, or None for any object that is not the path of a step."""
    if not is_path(path):
        return None
    step = item_at(rows, path[0])
    at = 1
    while step is not None and at < len(path):
        inner = item_at(lists_of(step), path[at])
        step = None if inner is None else item_at(inner, path[at + 1])
        at += 2
    return step


def with_lists(step, lists):
    """The step with these lists in the place of its own."""
    # In each kind of step its lists stand last.
    return step[:len(step) - len(lists)] + tuple(lists)


def held_in(step):
    """The tuple of the cells that a step holds; empty for a step that has no held."""
    return items_of(step, "held")[0] if "held" in FORMS[step[0]] else ()


def with_held(step, cells):
    """The step with these cells in the place of those that it holds, if it has a held."""
    if "held" not in FORMS[step[0]]:
        return step
    place = FORMS[step[0]].index("held") + 1
    return step[:place] + (tuple(cells),) + step[place + 1:]


def tail_at(rows, path):
    """The step at a path that the rows have, and the steps behind it in its list."""
    if len(path) == 1:
        return rows[path[0]:]
    return tail_at(lists_of(rows[path[0]])[path[1]], path[2:])


def with_tail(rows, path, tail):
    """The rows with a tail in the place of the step at a path that they have, and of those behind it in its list."""
    at = path[0]
    if len(path) == 1:
        return rows[:at] + tail
    lists = lists_of(rows[at])
    lists[path[1]] = with_tail(lists[path[1]], path[2:], tail)
    return rows[:at] + (with_lists(rows[at], lists),) + rows[at + 1:]


def with_rows(rows, path, others):
    """The rows with others in the place of the step at a path that they have."""
    return with_tail(rows, path, others + tail_at(rows, path)[1:])


def rebuilt(rows, change, ahead=()):
    """The rows with the steps change(path, step) in the place of each step, whose lists were rebuilt before."""
    made = []
    for at, step in enumerate(rows):
        path = (*ahead, at)
        lists = [rebuilt(inner, change, (*path, number)) for number, inner in enumerate(lists_of(step))]
        made.extend(change(path, with_lists(step, lists)))
    return tuple(made)


def either_of_each(step):
    """The either step that does what an each step does."""
    held, body, then = step[1:]
    return ("either", held, body + (("whether", (), then, (), ()), ("back",)), ())

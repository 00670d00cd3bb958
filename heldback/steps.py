"""Steps, the lists of steps in them, and their paths.

ROWS are steps that were checked and frozen: tuples of steps, tuples throughout.
"""

from heldback.kinds import is_integer, is_list, is_name

# What stands in a step behind its word, item by item.
FORMS = {
    "say": ("word",),
    "set": ("cell", "number"),
    "add": ("cell", "number"),
    "copy": ("cell", "cell", "number"),
    "less": ("cell", "number", "list", "list"),
    "below": ("cell", "cell", "number", "list", "list"),
    "times": ("repeats", "list"),
    "fault": ("stop",),
    "catch": ("stop", "held", "list", "list"),
    "last": ("list", "list"),
    "back": (),
    "either": ("held", "list", "list"),
    "whether": ("held", "list", "list", "list"),
    "each": ("held", "list", "list"),
    "hole": (),
}


def is_held(thing):
    """Tells whether an object is a list of names without duplicates."""
    return is_list(thing) and all([is_name(cell) for cell in thing]) and len(set(thing)) == len(thing)


def is_item(kind, thing):
    """Tells whether an object may stand in a step where FORMS has this kind."""
    if kind == "list":
        return is_list(thing)
    if kind == "held":
        return is_held(thing)
    if kind == "number":
        return is_integer(thing)
    if kind == "repeats":
        return is_integer(thing) and 0 <= thing <= 3
    # "back" is the way back to a choice, so no fault may have this word.
    if kind == "stop":
        return is_name(thing) and thing != "back"
    return is_name(thing)


def is_step(thing):
    """Tells whether an object is a step, whatever stands in its lists."""
    if not is_list(thing) or len(thing) == 0:
        return False
    word = thing[0]
    if not isinstance(word, str) or word not in FORMS:
        return False
    form = FORMS[word]
    if len(thing) != len(form) + 1:
        return False
    return all([is_item(kind, item) for kind, item in zip(form, thing[1:])])


def items_of(step, wanted):
    """The list of the items of a step that have the wanted kind."""
    return [item for kind, item in zip(FORMS[step[0]], step[1:]) if kind == wanted]


def lists_of(step):
    """The list of the lists of a step, as they are counted in paths."""
    return items_of(step, "list")


def first_wrong(things):
    """The path of the first thing that is not a step, or None."""
    for at, thing in enumerate(things):
        if not is_step(thing):
            return (at,)
        inner = first_wrong_within(thing)
        if inner is not None:
            return (at, *inner)
    return None


def first_wrong_within(step):
    """The way from a step to the first thing in its lists that is not a step, or None."""
    for at, things in enumerate(lists_of(step)):
        inner = first_wrong(things)
        if inner is not None:
            return (at, *inner)
    return None


def frozen(thing):
    """The thing with tuples in the place of all its lists."""
    if is_list(thing):
        return tuple([frozen(item) for item in thing])
    return thing


def all_steps(rows):
    """The list of the steps at all depths, each one ahead of those in its lists."""
    found = []
    for step in rows:
        found.append(step)
        for inner in lists_of(step):
            found.extend(all_steps(inner))
    return found


def all_items(rows, wanted):
    """The list of the items of the wanted kind in the steps at all depths."""
    return [item for step in all_steps(rows) for item in items_of(step, wanted)]


def cells_in(rows):
    """The ascending list of the cells that the steps name, held ones too."""
    held = [cell for cells in all_items(rows, "held") for cell in cells]
    return sorted(set(all_items(rows, "cell") + held))


def is_path(thing):
    """Tells whether an object has the form of a path."""
    return is_list(thing) and len(thing) % 2 == 1 and all([is_integer(at) for at in thing])


def item_at(things, at):
    """The thing at an index, or None where there is none."""
    return things[at] if 0 <= at < len(things) else None


def step_at(rows, path):
    """The step at a path, or None for any object that is not the path of a step."""
    if not is_path(path):
        return None
    step = item_at(rows, path[0])
    at = 1
    while step is not None and at < len(path):
        inner = item_at(lists_of(step), path[at])
        step = None if inner is None else item_at(inner, path[at + 1])
        at += 2
    return step


def with_list(step, number, rows):
    """The step with rows in the place of its list of this number."""
    places = [at for at, kind in enumerate(FORMS[step[0]], start=1) if kind == "list"]
    place = places[number]
    return step[:place] + (rows,) + step[place + 1:]


def with_rows(rows, path, others):
    """The rows with others in the place of the step at a path that they have."""
    at = path[0]
    if len(path) == 1:
        return rows[:at] + others + rows[at + 1:]
    inner = with_rows(lists_of(rows[at])[path[1]], path[2:], others)
    return rows[:at] + (with_list(rows[at], path[1], inner),) + rows[at + 1:]


def either_of_each(step):
    """The either step that does what an each step does."""
    held, body, then = step[1:]
    return ("either", held, body + (("whether", (), then, (), ()), ("back",)), ())

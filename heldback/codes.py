"""Code: lists of instructions that do what parts do."""

from heldback.steps import either_of_each


def code(part):
    """The code of a part: the list of its instructions."""
    return code_at(part.steps(), 0) + [("answer",)]


def code_at(rows, start):
    """The code of steps, one behind another, whose first instruction has the address start.

    Among the steps there may be instructions that stand for themselves.
    """
    made = []
    for step in rows:
        made.extend(code_of(step, start + len(made)))
    return made


def code_of(step, start):
    """The code of one step."""
    if step[0] in CODES:
        told = CODES[step[0]]
        return told(step, start)
    return [step]


def forked(ahead, body, other, start):
    """The code that does body, or other, where the instruction ahead, which has this address, goes to other."""
    first = code_at(body, start + 1)
    at = start + len(first) + 2
    second = code_at(other, at)
    return [(*ahead, at), *first, ("go", at + len(second)), *second]


def code_of_less(step, start):
    cell, n, yes, no = step[1:]
    return forked(("unless", cell, n), yes, no, start)


def code_of_below(step, start):
    cell, other, n, yes, no = step[1:]
    return forked(("beyond", cell, other, n), yes, no, start)


def code_of_times(step, start):
    return code_at(step[2] * step[1], start)


def code_of_catch(step, start):
    word, held, body, then = step[1:]
    return forked(("catch", word, held), body + (("leave",),), then, start)


def code_of_last(step, start):
    body, then = step[1:]
    return forked(("last",), body + (("leave",),) + then, then + (("again",),), start)


def code_of_either(step, start):
    held, body, other = step[1:]
    return forked(("open", held), body, other, start)


def code_of_whether(step, start):
    held, body, then, other = step[1:]
    rows = body + (("close",),) + then
    return [("mark",), *forked(("open", held), rows, (("leave",),) + other, start + 1)]


def code_of_each(step, start):
    return code_of_either(either_of_each(step), start)


def code_of_hole(step, start):
    return []


# The steps whose code is not just the step itself.
CODES = {
    "less": code_of_less,
    "below": code_of_below,
    "times": code_of_times,
    "catch": code_of_catch,
    "last": code_of_last,
    "either": code_of_either,
    "whether": code_of_whether,
    "each": code_of_each,
    "hole": code_of_hole,
}

"""Texts of parts: writing and reading them."""

from heldback.errors import BadText
from heldback.parts import Part
from heldback.steps import FORMS, is_step, lists_of, with_lists

DIGITS = "0123456789"
STEP_IN = "  "

# The lines that stand ahead of the second list of a step, and of the third one.
BETWEEN = {
    "less": ("else",),
    "below": ("else",),
    "catch": ("then",),
    "last": ("then",),
    "either": ("or",),
    "whether": ("then", "else"),
    "each": ("then",),
}


def text(part):
    """The text of a part."""
    return "\n".join(lines_of(part.steps(), ""))


def lines_of(rows, margin):
    """The lines of steps that begin at this margin."""
    made = []
    for step in rows:
        made.append(margin + first_line(step))
        for number, inner in enumerate(lists_of(step)):
            if number > 0:
                made.append(margin + BETWEEN[step[0]][number - 1])
            made.extend(lines_of(inner, margin + STEP_IN))
    return made


def first_line(step):
    """The first line of a step, without its margin."""
    items = [step[0]]
    for kind, item in zip(FORMS[step[0]], step[1:]):
        if kind == "held":
            items.extend(item)
        elif kind != "list":
            items.append(str(item))
    return " ".join(items)


def read(written):
    """The part that has this text."""
    lines = written.split("\n") if written != "" else []
    rows, at = read_rows(lines, 0, "")
    if at < len(lines):
        raise BadText(at + 1)
    return Part(rows)


def read_rows(lines, start, margin):
    """The steps that begin at this margin, from the line at start on, and the index of the first line behind them."""
    rows = []
    at = start
    head = head_at(lines, at, margin)
    while head is not None:
        step, at = read_lists(head, lines, at + 1, margin)
        rows.append(step)
        head = head_at(lines, at, margin)
    return tuple(rows), at


def read_lists(head, lines, start, margin):
    """The step whose first line is head, and the index of the first line behind its lists."""
    lists = []
    at = start
    for number in range(len(lists_of(head))):
        if number > 0:
            if at == len(lines) or lines[at] != margin + BETWEEN[head[0]][number - 1]:
                raise BadText(at + 1)
            at = at + 1
        rows, at = read_rows(lines, at, margin + STEP_IN)
        lists.append(rows)
    return with_lists(head, lists), at


def head_at(lines, at, margin):
    """The step, its lists still empty, whose first line stands at an index and at this margin; or None."""
    if at == len(lines) or not lines[at].startswith(margin):
        return None
    word, *items = lines[at][len(margin):].split(" ")
    if word not in FORMS:
        return None
    head = (word, *items_read(FORMS[word], items))
    return head if is_step(head) else None


def items_read(form, items):
    """What the items of a line stand for in a step of this form; too many or too few of them make no step."""
    made = []
    for kind in form:
        if kind == "list":
            made.append(())
        elif kind == "held":
            made.append(tuple(items))
            items = []
        else:
            made.extend([worth_of(kind, item) for item in items[:1]])
            items = items[1:]
    return made + items


def worth_of(kind, item):
    """What an item of a line stands for; None for what should be an integer and is none."""
    return number_in(item) if kind in ("number", "repeats") else item


def number_in(item):
    """The integer that is written so, or None."""
    digits = item[1:] if item.startswith("-") else item
    if digits == "" or not all([sign in DIGITS for sign in digits]):
        return None
    n = int(item)
    return n if str(n) == item else None

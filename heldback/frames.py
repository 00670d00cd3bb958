"""Frames: parts with holes that another part fills, and frames that tell two parts from each other."""

from heldback.kinds import LETTERS
from heldback.likeness import parting
from heldback.parts import Part
from heldback.steps import rebuilt
from heldback.uses import outcomes

ANSWER = ("answer",)
NONE = ("none",)


def filled(frame, part):
    """The frame with the steps of the part in the place of each hole."""
    others = part.steps()
    return Part(rebuilt(frame.steps(), lambda path, step: others if step[0] == "hole" else (step,)))


def framing(one, other):
    """None if two parts are alike, else a frame in which they say different words."""
    use = parting(one, other)
    if use is None:
        return None
    last = outcomes(one, use)[-1]
    rival = outcomes(other, use)[-1]
    counter = new_names(one.cells() + other.cells(), 1)[0]
    words = new_names(one.words() + other.words(), 5)
    # Words that no part says: so what is said at the end cannot make up for what was said before.
    marks = dict(zip([ANSWER, NONE, last[1], rival[1]], words))
    return Part([*settings(use[0]), used(use, counter, marks), *cell_test(last[2], rival[2], words[4])])


def new_names(taken, many):
    """The first names, by length and letters, that are not taken."""
    barred = {name: True for name in taken}
    found = []
    names = [""]
    while len(found) < many:
        names = [name + letter for name in names for letter in LETTERS]
        found.extend([name for name in names if name not in barred])
    return found[:many]


def settings(cells):
    """The steps that set the cells."""
    return [("set", cell, cells[cell]) for cell in cells]


def used(use, counter, marks):
    """The step that uses what fills its hole, and says the mark of the end that it comes to at last."""
    rows = [("hole",), ("add", counter, 1)]
    for at, cells in enumerate(use[1:], start=1):
        rows.append(("less", counter, at + 1, [*settings(cells), ("back",)], []))
    rows.append(("say", marks[ANSWER]))
    for end in marks:
        if end[0] == "fault":
            rows = [("catch", end[1], [], rows, [("say", marks[end])])]
    return ("either", [], rows, [("say", marks[NONE])])


def cell_test(pairs, rivals, word):
    """The steps that say the word for just one of two lists of pairs (cell, value), if they differ."""
    for pair, rival in zip(pairs, rivals):
        if pair != rival:
            return [("less", pair[0], max(pair[1], rival[1]), [("say", word)], [])]
    return []

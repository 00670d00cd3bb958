"""Saves: the cells that single steps put back, and which of them a part needs."""

from heldback.errors import NoSave
from heldback.kinds import is_list, is_name
from heldback.likeness import alike
from heldback.parts import Part
from heldback.steps import held_in, is_path, paths_in, rebuilt, with_held


def saves(part):
    """The ascending list of the saves of a part: pairs of the path of a step and a cell that it holds."""
    return [(path, cell) for path, step in paths_in(part.steps()) for cell in sorted(held_in(step))]


def keeping(part, kept):
    """The part in which each held has only those of its cells whose saves are kept."""
    own = {save: True for save in saves(part)}
    for thing in kept:
        if not is_save(own, thing):
            raise NoSave(thing)
    pairs = {(tuple(path), cell): True for path, cell in kept}
    return Part(rebuilt(part.steps(), lambda path, step: (with_kept(path, step, pairs),)))


def is_save(own, thing):
    """Tells whether an object is one of the saves."""
    if not is_list(thing) or len(thing) != 2 or not is_path(thing[0]) or not is_name(thing[1]):
        return False
    return (tuple(thing[0]), thing[1]) in own


def with_kept(path, step, pairs):
    """The step at the path, which holds only those of its cells whose saves are among the pairs."""
    return with_held(step, [cell for cell in held_in(step) if (path, cell) in pairs])


def needless(part):
    """The ascending list of the saves that can be left out alone."""
    own = saves(part)
    return [save for save in own if is_enough(part, [other for other in own if other != save])]


def is_enough(part, kept):
    """Tells whether the part does the same if it keeps only these saves."""
    return alike(part, keeping(part, kept))


def least_saves(part):
    """The shortest list of saves that are enough, and of several the least one."""
    own = saves(part)
    for many in range(len(own)):
        for kept in choices_of(own, many):
            if is_enough(part, kept):
                return kept
    return own


def choices_of(things, many):
    """The ascending list of all lists of so many of the things, in their order."""
    if many == 0:
        return [[]]
    found = []
    for at, thing in enumerate(things):
        found.extend([[thing, *others] for others in choices_of(things[at + 1:], many - 1)])
    return found

"""Rules, which replace steps by others that do the same."""

from heldback.errors import NoFit, NoPath, NoRule
from heldback.fits import FITS, fit
from heldback.parts import Part
from heldback.steps import lists_of, paths_in, step_at, tail_at, with_lists, with_tail

# These do not always make a part shorter.
NOT_SHORTENING = ("spread", "turn", "unroll")


def rewritten(part, rule, path):
    """The part with the rule applied at a step."""
    if not isinstance(rule, str) or rule not in FITS:
        raise NoRule(rule)
    rows = part.steps()
    if step_at(rows, path) is None:
        raise NoPath(path)
    tail = tail_at(rows, path)
    made = fit(rule, tail[0], tail[1:])
    if made is None:
        raise NoFit(rule, tuple(path))
    return Part(with_tail(rows, path, made))


def fitting(part):
    """The ascending list of the pairs (path, rule) of all steps and the rules that they fit."""
    rows = part.steps()
    found = []
    for path, step in paths_in(rows):
        behind = tail_at(rows, path)[1:]
        found.extend([(path, rule) for rule in FITS if fit(rule, step, behind) is not None])
    return found


def short(part):
    """The part that is left when the first rule that makes it shorter is applied, again and again."""
    rows = part.steps()
    at = 0
    while at < len(rows):
        made = shorter_at(rows, at)
        if made is None:
            at = at + 1
        else:
            rows = made
            # A changed step can make the one ahead of it fit, but none before that.
            at = max(at - 1, 0)
    return Part(rows)


def shorter_at(rows, at):
    """The rows with the first rule applied that makes them shorter, at or within the step at an index; or None."""
    step, behind = rows[at], rows[at + 1:]
    for rule in FITS:
        if rule not in NOT_SHORTENING:
            made = fit(rule, step, behind)
            if made is not None:
                return rows[:at] + made
    lists = lists_of(step)
    for number, inner in enumerate(lists):
        made = shorter_within(inner)
        if made is not None:
            others = lists[:number] + [made] + lists[number + 1:]
            return rows[:at] + (with_lists(step, others),) + behind
    return None


def shorter_within(rows):
    """The rows with the first rule applied that makes them shorter, or None."""
    for at in range(len(rows)):
        made = shorter_at(rows, at)
        if made is not None:
            return made
    return None

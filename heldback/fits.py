"""Fits: what each rule puts in the place of a step and of the steps behind it in its list.

Each function gets the step and those behind it, and returns what stands there
instead, up to the end of the list; None if the step does not fit the rule.
"""

from heldback.steps import all_steps, lists_of, with_lists

GIVING = ("set", "add", "copy")
TWO_WAYS = ("either", "less", "below")


def first_word(rows):
    """The word of the first of the steps; None where there is none."""
    return rows[0][0] if rows else None


def fit_bare(step, behind):
    if step[0] == "last" and step[2] == ():
        return step[1] + behind
    if step[0] == "catch" and not may_break_off(step[3], step[1]):
        return step[3] + behind
    return None


def may_break_off(rows, word):
    """Tells whether a fault of this word stands in the rows, or a hole, into which one can be filled."""
    return any([step[0] == "hole" or step == ("fault", word) for step in all_steps(rows)])


def fit_breaks(step, behind):
    if step[0] not in ("either", "whether", "catch", "last") or first_word(lists_of(step)[0]) != "fault":
        return None
    fault = lists_of(step)[0][0]
    if step[0] == "last":
        return step[2] + (fault,) + behind
    if step[0] == "catch" and step[1] == fault[1]:
        return step[4] + behind
    return (fault,) + behind


def fit_cut(step, behind):
    return (step,) if step[0] in ("fault", "back") and behind else None


def fit_empty(step, behind):
    lists = lists_of(step)
    if step[0] in ("last", "whether") and lists[0] == ():
        return lists[1] + behind
    if step[0] == "catch" and lists[0] == ():
        return behind
    if step[0] == "each" and lists == [(), ()]:
        return behind
    if step[0] == "add" and step[2] == 0:
        return behind
    if step[0] == "copy" and step[1] == step[2] and step[3] == 0:
        return behind
    return None


def fit_fails(step, behind):
    if step[0] in ("either", "whether") and first_word(step[2]) == "back":
        return step[-1] + behind
    return None


def fit_join(step, behind):
    if step[0] not in GIVING or first_word(behind) not in GIVING or step[1] != behind[0][1]:
        return None
    second = behind[0]
    if second[0] == "add":
        return (step[:-1] + (step[-1] + second[2],),) + behind[1:]
    # A copy of the cell itself hangs on the value that the first step gives.
    return None if second[:3] == ("copy", step[1], step[1]) else behind


def fit_known(step, behind):
    if step[0] != "set" or first_word(behind) != "less" or step[1] != behind[0][1]:
        return None
    n, yes, no = behind[0][2:]
    return (step,) + (yes if step[2] < n else no) + behind[1:]


def fit_only(step, behind):
    if step[:2] == ("either", ()) and first_word(step[3]) == "back":
        return step[2] + behind
    return None


def fit_same(step, behind):
    return step[-1] + behind if step[0] in ("less", "below") and step[-1] == step[-2] else None


def fit_spread(step, behind):
    if step[0] not in TWO_WAYS or not behind:
        return None
    return (with_lists(step, [rows + behind for rows in lists_of(step)]),)


def fit_tail(step, behind):
    if step[0] not in TWO_WAYS or step[-1][-1:] != step[-2][-1:] or step[-1] == ():
        return None
    return (with_lists(step, [rows[:-1] for rows in lists_of(step)]), step[-1][-1]) + behind


def fit_turn(step, behind):
    if step[0] != "either" or len(step[2]) != 1 or step[2][0][:2] != step[:2]:
        return None
    first, second = step[2][0][2:]
    return (step[:2] + (first, (step[:2] + (second, step[3]),)),) + behind


def fit_unroll(step, behind):
    return step[2] * step[1] + behind if step[0] == "times" else None


# The rules by their names, in ascending order.
FITS = {
    "bare": fit_bare,
    "breaks": fit_breaks,
    "cut": fit_cut,
    "empty": fit_empty,
    "fails": fit_fails,
    "join": fit_join,
    "known": fit_known,
    "only": fit_only,
    "same": fit_same,
    "spread": fit_spread,
    "tail": fit_tail,
    "turn": fit_turn,
    "unroll": fit_unroll,
}


def fit(rule, step, behind):
    """What a rule puts in the place of a step and those behind it, or None."""
    made = FITS[rule]
    return made(step, behind)

"""Trees: what parts do in all uses, and what a tree tells of one use."""

from heldback.cases import outcome_in, tree_over
from heldback.uses import check_use


def tree(part):
    """What the part does in all uses, as nested tuples."""
    return tree_over(part.steps(), part.cells())


def followed(nodes, use):
    """The list of the outcomes that a tree tells of a use."""
    check_use(use)
    answers = []
    found = []
    while len(found) < len(use):
        nodes = beyond_ifs(nodes, use, answers)
        end, words, cells = outcome_in(nodes)
        pairs = [(cell, worth_of(source, use, answers) + n) for cell, source, n in cells]
        found.append((list(words), end, pairs))
        if end != ("answer",):
            break
        answers.append(dict(pairs))
        nodes = nodes[3]
    return found


def beyond_ifs(node, use, answers):
    """The first node that is no if, where each if goes the way that it goes in the use."""
    while node[0] == "if":
        one, other, n, yes, no = node[1:]
        less = worth_of(one, use, answers) < worth_of(other, use, answers) + n
        node = yes if less else no
    return node


def worth_of(source, use, answers):
    """The integer that a source stands for; answers are the dicts of the cells of the answers so far."""
    if source is None:
        return 0
    cell, at = source
    # What a dict of the use does not set stays as it was at the answer before.
    while cell not in use[at] and at > 0 and cell not in answers[at - 1]:
        at = at - 1
    if cell in use[at]:
        return use[at][cell]
    return answers[at - 1][cell] if at > 0 else 0

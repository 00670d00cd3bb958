"""Cases: what a part does in all uses at once.

The cells of these courses have pairs (source, n) as values: the source plus n.
"""

from heldback.bounds import can_be, sides
from heldback.courses import ACTIONS, Course, go_back, go_into, in_front


def tree_over(rows, cells):
    """The tree of the steps, with these cells in its nodes; they are all that the steps name, and perhaps more."""
    store = {cell: ((cell, 0), 0) for cell in cells}
    return node_at(Course(in_front(rows, None), store), {}, 0)


def node_at(course, bounds, asked):
    """The node that a course comes to, if its sources are within the bounds and it was asked again so many times."""
    test = go_to_test(course, bounds)
    if test is None:
        return outcome_at(course, bounds, asked)
    one, other, n, yes, no = test
    below, beyond = sides(bounds, one, other, n)
    twin = course.twin()
    go_into(course, yes)
    go_into(twin, no)
    return ("if", one, other, n, node_at(course, below, asked), node_at(twin, beyond, asked))


def outcome_at(course, bounds, asked):
    """The node of the answer or the end that a course has come to."""
    words = course.spoken
    cells = [(cell, *value) for cell, value in course.pairs()]
    if course.end is not None:
        return (*course.end, words, cells)
    course.spoken = []
    ask_again(course, asked + 1)
    return ("answer", words, cells, node_at(course, bounds, asked + 1))


def ask_again(course, asked):
    """Asks a course for the next answer; before that, a use can set each of its cells."""
    for cell in list(course.store):
        course.store[cell] = ((cell, asked), 0)
    go_back(course)


def go_to_test(course, bounds):
    """Goes on to the next test that can go both ways, and returns it; None at an answer or an end."""
    while course.end is None and course.rest is not None:
        thing, course.rest = course.rest
        if thing[0] in TESTS:
            one, other, n, yes, no = test_of(course, thing)
            can_be_less = can_be(bounds, one, other, n - 1)
            if can_be_less and can_be(bounds, other, one, -n):
                return (one, other, n, yes, no)
            go_into(course, yes if can_be_less else no)
        else:
            act(course, thing)
    return None


def test_of(course, step):
    """One, other, n, yes and no of the if that a less or below step gives."""
    source, many = course.store[step[1]]
    if step[0] == "less":
        return (source, None, step[2] - many, *step[3:])
    other, more = course.store[step[2]]
    return (source, other, step[3] + more - many, *step[4:])


def act(course, thing):
    """Does a step or a mark that is no test."""
    if thing[0] in CHANGES:
        action = CHANGES[thing[0]]
    else:
        action = ACTIONS[thing[0]]
    action(course, thing)


def give_number(course, step):
    course.store[step[1]] = (None, step[2])


def add_number(course, step):
    course.store[step[1]] = value_plus(course, step[1], step[2])


def give_value(course, step):
    course.store[step[1]] = value_plus(course, step[2], step[3])


def value_plus(course, cell, n):
    """The value of a cell plus n."""
    source, many = course.store[cell]
    return (source, many + n)


TESTS = ("less", "below")

# What steps do to cells whose values are pairs.
CHANGES = {"set": give_number, "add": add_number, "copy": give_value}


def outcome_in(node):
    """The end, the words and the cells of a node that is no if."""
    if node[0] == "fault":
        return tuple(node[:2]), node[2], node[3]
    return tuple(node[:1]), node[1], node[2]

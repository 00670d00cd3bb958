"""What runs do: the course of a run, and what each step does to it.

The rest is a chain of pairs (thing, rest), and None at its end: so the choices
can keep whole rests without copies. Its things are steps and marks. A mark is a
tuple like a step, but its word is none of theirs; its number of open choices
stands last in it.
"""

from heldback.errors import BadUse
from heldback.kinds import is_setting
from heldback.steps import cells_in, either_of_each


class Course:
    """How far a run has come."""

    def __init__(self, rest, store):
        self.rest = rest
        self.store = store
        self.choices = []
        self.spoken = []
        self.begun = False
        self.end = None

    def twin(self):
        """Another course that is as this one is."""
        other = Course(self.rest, dict(self.store))
        other.choices = list(self.choices)
        other.spoken = list(self.spoken)
        other.begun = self.begun
        other.end = self.end
        return other

    def pairs(self):
        """The ascending list of the pairs (cell, value)."""
        return [(cell, self.store[cell]) for cell in sorted(self.store)]


def store_of(rows, cells):
    """The dict of the values that cells have at the beginning; cells are those that are set, or None."""
    if cells is not None and not is_setting(cells):
        raise BadUse(0)
    store = {cell: 0 for cell in cells_in(rows)}
    if cells is not None:
        store.update(cells)
    return store


def course_of(rows, cells):
    """The course of a run of the steps that has not begun."""
    return Course(in_front(rows, None), store_of(rows, cells))


def in_front(things, rest):
    """The rest with things at its front."""
    for thing in reversed(list(things)):
        rest = (thing, rest)
    return rest


def go_into(course, rows):
    """Puts steps at the front of the rest."""
    course.rest = in_front(rows, course.rest)


def kept_of(course, held):
    """The pairs of the held cells and the values that they have now."""
    return [(cell, course.store[cell]) for cell in held]


def put_back(course, kept):
    """Gives the cells the values that were kept."""
    for cell, value in kept:
        course.store[cell] = value


def close_beyond(course, number):
    """Closes all choices but this number of those that were opened first."""
    del course.choices[number:]


def do_say(course, step):
    course.spoken.append(step[1])


def do_set(course, step):
    course.store[step[1]] = step[2]


def do_add(course, step):
    course.store[step[1]] = course.store[step[1]] + step[2]


def do_copy(course, step):
    course.store[step[1]] = course.store[step[2]] + step[3]


def do_less(course, step):
    cell, n, yes, no = step[1:]
    go_into(course, yes if course.store[cell] < n else no)


def do_below(course, step):
    cell, other, n, yes, no = step[1:]
    go_into(course, yes if course.store[cell] < course.store[other] + n else no)


def do_times(course, step):
    go_into(course, step[2] * step[1])


def do_nothing(course, step):
    """What a hole does, and the mark of a catch in which no fault broke off."""


def do_catch(course, step):
    word, held, body, then = step[1:]
    mark = ("catch mark", word, then, kept_of(course, held), len(course.choices))
    go_into(course, body + (mark,))


def do_last(course, step):
    body, then = step[1:]
    go_into(course, body + (("last mark", then, len(course.choices)),))


def do_last_mark(course, mark):
    go_into(course, mark[1])


def do_fault(course, step):
    word = step[1]
    rest = course.rest
    while rest is not None and not stops(rest[0], word):
        rest = rest[1]
    if rest is None:
        course.end = ("fault", word)
        return
    mark, course.rest = rest
    close_beyond(course, mark[-1])
    if mark[0] == "catch mark":
        put_back(course, mark[3])
        go_into(course, mark[2])
    else:
        go_into(course, mark[1] + (step,))


def stops(thing, word):
    """Tells whether a thing of the rest is a mark at which a fault of this word stops."""
    return thing[0] == "last mark" or (thing[0] == "catch mark" and thing[1] == word)


def open_choice(course, held, other):
    """Opens a choice that goes on with other and the rest."""
    course.choices.append((in_front(other, course.rest), kept_of(course, held)))


def do_either(course, step):
    held, body, other = step[1:]
    open_choice(course, held, other)
    go_into(course, body)


def do_whether(course, step):
    held, body, then, other = step[1:]
    mark = ("whether mark", then, len(course.choices))
    open_choice(course, held, other)
    go_into(course, body + (mark,))


def do_whether_mark(course, mark):
    then, number = mark[1:]
    close_beyond(course, number)
    go_into(course, then)


def do_each(course, step):
    do_either(course, either_of_each(step))


def do_back(course, step):
    go_back(course)


def go_back(course):
    """Goes back to the choice that was opened last, or ends the run."""
    if not course.choices:
        course.end = ("none",)
        return
    rest, kept = course.choices.pop()
    course.rest = rest
    put_back(course, kept)


ACTIONS = {
    "say": do_say,
    "set": do_set,
    "add": do_add,
    "copy": do_copy,
    "less": do_less,
    "below": do_below,
    "times": do_times,
    "fault": do_fault,
    "catch": do_catch,
    "catch mark": do_nothing,
    "last": do_last,
    "last mark": do_last_mark,
    "back": do_back,
    "either": do_either,
    "whether": do_whether,
    "whether mark": do_whether_mark,
    "each": do_each,
    "hole": do_nothing,
}


def go_on(course):
    """Begins the run, or asks it for the next answer; returns what it came to."""
    if course.begun:
        go_back(course)
    course.begun = True
    while course.end is None and course.rest is not None:
        thing, course.rest = course.rest
        action = ACTIONS[thing[0]]
        action(course, thing)
    return ("answer",) if course.end is None else course.end

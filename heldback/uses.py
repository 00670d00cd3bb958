"""Uses of parts: the cells that are set ahead of each answer, and what the part comes to then."""

from heldback.courses import course_of, go_on
from heldback.errors import BadUse
from heldback.kinds import is_list, is_setting


def check_use(use):
    """Raises BadUse for any object that is not a use."""
    if not is_list(use) or len(use) == 0:
        raise BadUse(0)
    for at, cells in enumerate(use):
        if not is_setting(cells):
            raise BadUse(at)


def outcomes(part, use):
    """The list of the outcomes (words, end, cells) of a use of the part."""
    check_use(use)
    course = course_of(part.steps(), None)
    for cells in use:
        for cell in cells:
            course.store.setdefault(cell, 0)
    found = []
    for cells in use:
        if course.end is None:
            course.store.update(cells)
            found.append(next_outcome(course))
    return found


def next_outcome(course):
    """The outcome that a course comes to next."""
    course.spoken = []
    end = go_on(course)
    return (course.spoken, end, course.pairs())

"""Parts of programs: lists of steps that were checked."""

from heldback.courses import course_of, go_on
from heldback.errors import BadPart, NoAnswer, NoPath, Uncaught
from heldback.kinds import is_list
from heldback.steps import all_items, all_steps, cells_in, first_wrong, frozen, step_at, with_rows


def rows_of(steps):
    """The steps, checked, as tuples throughout."""
    # What is no list at all has no thing that a path could lead to.
    wrong = first_wrong(steps) if is_list(steps) else ()
    if wrong is not None:
        raise BadPart(wrong)
    return frozen(steps)


class Part:
    """A part of a program. It does not change."""

    def __init__(self, steps):
        self.rows = rows_of(steps)

    def steps(self):
        """The steps, tuples throughout."""
        return self.rows

    def cells(self):
        """The ascending list of the cells that the part names."""
        return cells_in(self.rows)

    def words(self):
        """The ascending list of the words of its say steps."""
        return sorted(set(all_items(self.rows, "word")))

    def faults(self):
        """The ascending list of the words of its fault and catch steps."""
        return sorted(set(all_items(self.rows, "stop")))

    def replaced(self, path, steps):
        """The part with the steps in the place of the step at the path."""
        if step_at(self.rows, path) is None:
            raise NoPath(path)
        return Part(with_rows(self.rows, path, rows_of(steps)))

    def __getitem__(self, at):
        step = step_at(self.rows, at)
        if step is None:
            raise NoPath(at)
        return step

    def __iter__(self):
        raise TypeError("a part is not iterated over; its steps are")

    def __len__(self):
        return len(all_steps(self.rows))

    def __eq__(self, other):
        return isinstance(other, Part) and self.rows == other.rows

    def __add__(self, other):
        if not isinstance(other, Part):
            return NotImplemented
        return Part(self.rows + other.rows)

    def __mul__(self, other):
        return Part([("times", other, self.rows)])

    def __rmul__(self, other):
        return self * other

    def __or__(self, other):
        if not isinstance(other, Part):
            return NotImplemented
        return Part([("either", [], self.rows, other.rows)])

    def __call__(self, cells=None):
        """The dict of the cells at the first answer of a run with these cells."""
        course = course_of(self.rows, cells)
        end = go_on(course)
        if end[0] == "fault":
            raise Uncaught(end[1])
        if end[0] == "none":
            raise NoAnswer()
        return dict(course.pairs())

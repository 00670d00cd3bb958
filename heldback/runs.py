"""Runs of parts, which give one answer after another."""

from heldback.courses import course_of, go_on
from heldback.errors import NotName, NotNumber, Over
from heldback.kinds import is_integer, is_name


class Run:
    """A run of a part."""

    def __init__(self, part, cells=None):
        self.part = part
        self.course = course_of(part.steps(), cells)

    def answer(self):
        """Begins the run, or asks it for the next answer; returns what it came to."""
        if self.course.end is not None:
            raise Over()
        return go_on(self.course)

    @property
    def ended(self):
        """None, or what answer() returned at the end."""
        return self.course.end

    def said(self):
        """The list of all words that were said so far."""
        return list(self.course.spoken)

    def cells(self):
        """The ascending list of the pairs (cell, value)."""
        return self.course.pairs()

    def twin(self):
        """Another run that is as this one is."""
        other = Run(self.part)
        other.course = self.course.twin()
        return other

    def trial(self, work):
        """What work returns for this run, which is afterwards as it was before."""
        kept = self.course
        self.course = kept.twin()
        try:
            return work(self)
        finally:
            self.course = kept

    def __getitem__(self, at):
        if not is_name(at):
            raise NotName(at)
        return self.course.store.get(at, 0)

    def __setitem__(self, at, worth):
        if not is_name(at):
            raise NotName(at)
        if not is_integer(worth):
            raise NotNumber(worth)
        self.course.store[at] = worth

    def __iter__(self):
        raise TypeError("a run is not iterated over; its cells are")

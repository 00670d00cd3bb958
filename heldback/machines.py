"""Machines, which run the code of parts."""

from heldback.codes import code
from heldback.courses import store_of
from heldback.errors import NotName, NotNumber, Over
from heldback.kinds import is_integer, is_name
from heldback.memories import Memory, Trail
from heldback.moves import Engine, go_to_answer


class Machine:
    """A machine that runs the code of a part; with a trail it keeps no values, but notes all changes."""

    def __init__(self, part, cells=None, *, trail=False):
        store = store_of(part.steps(), cells)
        memory = Trail(store) if trail else Memory(store)
        self.engine = Engine(code(part), memory)

    def answer(self):
        """Begins, or asks for the next answer; returns what the machine comes to."""
        if self.engine.end is not None:
            raise Over()
        return go_to_answer(self.engine)

    @property
    def ended(self):
        """None, or what answer() returned at the end."""
        return self.engine.end

    def said(self):
        """The list of all words that were said so far."""
        return list(self.engine.spoken)

    def cells(self):
        """The ascending list of the pairs (cell, value)."""
        store = self.engine.memory.store
        return [(cell, store[cell]) for cell in sorted(store)]

    def trail(self):
        """The list of the pairs (cell, value) of the trail."""
        return self.engine.memory.noted()

    def __getitem__(self, at):
        if not is_name(at):
            raise NotName(at)
        return self.engine.memory.store.get(at, 0)

    def __setitem__(self, at, worth):
        if not is_name(at):
            raise NotName(at)
        if not is_integer(worth):
            raise NotNumber(worth)
        self.engine.memory.give(at, worth)

    def __iter__(self):
        raise TypeError("a machine is not iterated over; its cells are")

"""Memories: the cells of a machine, and how it puts them back."""


class Memory:
    """Cells whose values are kept, so that they can be put back."""

    def __init__(self, store):
        self.store = store

    def give(self, cell, n):
        """Gives a cell a value."""
        self.store[cell] = n

    def keep(self, held):
        """What has to be kept so that the held cells can be put back."""
        return [(cell, self.store[cell]) for cell in held]

    def put_back(self, kept):
        """Gives the held cells the values that they had when this was kept."""
        for cell, value in kept:
            self.store[cell] = value

    def noted(self):
        """The list of the pairs of the trail; there is none."""
        return []


class Trail(Memory):
    """Cells whose changes are noted in a trail, so that they can be put back."""

    def __init__(self, store):
        super().__init__(store)
        self.log = []

    def give(self, cell, n):
        """Notes the old value of a cell, and gives it a value."""
        self.log.append((cell, self.store.get(cell, 0)))
        self.store[cell] = n

    def keep(self, held):
        """The held cells, and the length of the trail now."""
        return (held, len(self.log))

    def put_back(self, kept):
        """Takes back all changes of the held cells since this was kept, the last one first."""
        held, length = kept
        since = self.log[length:]
        for cell, value in since[::-1]:
            if cell in held:
                self.store[cell] = value
        self.log[length:] = [pair for pair in since if pair[0] not in held]

    def noted(self):
        """The list of the pairs of the trail."""
        return list(self.log)

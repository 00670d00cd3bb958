"""[9], [10]: many parts, made by a fixed rule, do what another telling of the steps does."""

import random
import unittest

from heldback.parts import Part
from heldback.runs import Run
from model import Model
from samples import BIG

CELLS = ["a", "b", "c"]
WORDS = ["u", "v"]
KINDS = ["say", "set", "add", "copy", "less", "below", "times", "fault", "catch", "last", "back", "either", "whether",
         "each", "hole"]
LEAVES = ["say", "set", "add", "copy", "fault", "back", "hole", "say", "add"]


class Maker:
    """Makes parts; the same ones at each time, for it counts on a seed."""

    def __init__(self, seed):
        self.chance = random.Random(seed)
        self.said = 0
        self.room = 0

    def part(self):
        self.room = 7
        return self.steps(0)

    def steps(self, depth):
        return [self.step(depth) for _ in range(self.chance.choice((0, 1, 2, 2, 3) if depth else (2, 3, 4, 5)))]

    def number(self):
        return self.chance.choice([-2, -1, 0, 1, 2, 3, BIG, -BIG] if self.chance.random() < 0.1 else [-1, 0, 1, 2])

    def held(self):
        return self.chance.sample(CELLS, self.chance.choice((0, 1, 1, 2, 3)))

    def step(self, depth):
        word = self.chance.choice(KINDS if depth < 4 and self.room > 0 else LEAVES)
        if word in ("either", "whether", "each", "times"):
            self.room -= 1
        cell, other, inner = self.chance.choice(CELLS), self.chance.choice(CELLS), depth + 1
        if word == "say":
            self.said += 1
            return ("say", "abcdefghijklmnopqrstuvwxyz"[self.said % 26])
        if word in ("set", "add"):
            return (word, cell, self.number())
        if word == "copy":
            return (word, cell, other, self.number())
        if word == "less":
            return (word, cell, self.number(), self.steps(inner), self.steps(inner))
        if word == "below":
            return (word, cell, other, self.number(), self.steps(inner), self.steps(inner))
        if word == "times":
            return (word, self.chance.choice((0, 1, 2, 2, 3)), self.steps(inner))
        if word == "fault":
            return (word, self.chance.choice(WORDS))
        if word == "catch":
            return (word, self.chance.choice(WORDS), self.held(), self.steps(inner), self.steps(inner))
        if word == "last":
            return (word, self.steps(inner), self.steps(inner))
        if word in ("either", "each"):
            return (word, self.held(), self.steps(inner), self.steps(inner))
        if word == "whether":
            return (word, self.held(), self.steps(inner), self.steps(inner), self.steps(inner))
        return (word,)


class TestAgainstModel(unittest.TestCase):

    def follow(self, seed):
        """Runs one part in both ways; returns the ends, and how deep its answers went."""
        maker = Maker(seed)
        steps = maker.part()
        cells = {cell: maker.number() for cell in CELLS}
        run = Run(Part(steps), cells)
        model = Model(steps, cells)
        ends = []
        while run.ended is None and len(ends) < 12:
            other = run.twin()
            end = run.trial(lambda same: same.answer())
            self.assertEqual(model.answer(), end)
            self.assertEqual(run.answer(), end)
            self.assertEqual(other.answer(), end)
            self.assertEqual(run.said(), model.words)
            self.assertEqual(dict(run.cells()), model.worth)
            self.assertEqual((other.said(), other.cells()), (run.said(), run.cells()))
            ends.append(end)
            if maker.chance.random() < 0.5:
                cell, n = maker.chance.choice(CELLS), maker.number()
                run[cell] = n
                model.worth[cell] = n
        return ends

    def test_many_parts(self):
        counts = {"answer": 0, "none": 0, "fault": 0}
        for seed in range(6000):
            with self.subTest(seed=seed):
                for end in self.follow(seed):
                    counts[end[0]] += 1
        for kind, count in counts.items():
            self.assertGreater(count, 500, kind)


if __name__ == "__main__":
    unittest.main()

"""[9], [10]: many parts, made by a fixed rule, do what another telling of the steps does."""

import unittest

from heldback.parts import Part
from heldback.runs import Run
from maker import CELLS, Maker
from model import Model


class TestAgainstModel(unittest.TestCase):

    def follow(self, seed):
        """Runs one part in both ways; returns the ends, and how deep its answers went."""
        maker = Maker(seed)
        steps = maker.part()
        cells = {cell: maker.number() for cell in CELLS}
        run = Run(Part(steps), cells)
        model = Model(steps, cells)
        ends = []
        while run.ended is None and len(ends) < 12:
            other = run.twin()
            end = run.trial(lambda same: same.answer())
            self.assertEqual(model.answer(), end)
            self.assertEqual(run.answer(), end)
            self.assertEqual(other.answer(), end)
            self.assertEqual(run.said(), model.words)
            self.assertEqual(dict(run.cells()), model.worth)
            self.assertEqual((other.said(), other.cells()), (run.said(), run.cells()))
            ends.append(end)
            if maker.chance.random() < 0.5:
                cell, n = maker.chance.choice(CELLS), maker.number()
                run[cell] = n
                model.worth[cell] = n
        return ends

    def test_many_parts(self):
        counts = {"answer": 0, "none": 0, "fault": 0}
        for seed in range(6000):
            with self.subTest(seed=seed):
                for end in self.follow(seed):
                    counts[end[0]] += 1
        for kind, count in counts.items():
            self.assertGreater(count, 500, kind)


if __name__ == "__main__":
    unittest.main()

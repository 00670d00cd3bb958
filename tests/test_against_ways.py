"""[11] to [16]: many parts, made by a fixed rule, and another telling of their trees and of where they part."""

import unittest

from heldback.frames import filled, framing
from heldback.likeness import alike, parting
from heldback.parts import Part
from heldback.runs import Run
from heldback.trees import followed, tree
from heldback.uses import outcomes
from maker import CELLS, Maker, changed_a_little, is_small, told_otherwise
from model import Model
from ways import followed_again, parted_at, tree_again, use_on, ways_down


def used_again(steps, cells, use):
    """[11], by the model of [9]."""
    model = Model(steps, {cell: 0 for cell in cells})
    found = []
    for setting in use:
        if not found or found[-1][1] == ("answer",):
            before = len(model.words)
            model.worth.update(setting)
            end = model.answer()
            found.append((model.words[before:], end, sorted(model.worth.items())))
    return found


def without_other_cells(found, cells):
    return [(words, end, [pair for pair in pairs if pair[0] in cells]) for words, end, pairs in found]


def part_of(maker):
    return maker.lively_part() if maker.chance.random() < 0.7 else maker.small_part()


class TestUsesAndTrees(unittest.TestCase):

    def test_uses(self):
        for seed in range(1500):
            with self.subTest(seed=seed):
                maker = Maker(seed)
                steps = maker.part()
                part = Part(steps)
                use = maker.use(CELLS + ["extra"])
                cells = {*part.cells(), *[cell for setting in use for cell in setting]}
                self.assertEqual(outcomes(part, use), used_again(steps, cells, use))

    def test_trees(self):
        counts = {"if": 0, "answer": 0, "none": 0, "fault": 0}

        def count(node):
            counts[node[0]] += 1
            for inner in node[4:] if node[0] == "if" else node[3:] if node[0] == "answer" else ():
                count(inner)

        for seed in range(1500):
            with self.subTest(seed=seed):
                maker = Maker(seed)
                steps = part_of(maker)
                part = Part(steps)
                nodes = tree(part)
                count(nodes)
                self.assertEqual(nodes, tree_again(steps, part.cells()))
                for way in ways_down(nodes):
                    use = use_on(way, part.cells())
                    found = outcomes(part, use)
                    self.assertEqual(followed(nodes, use), found)
                    self.assertEqual([(end, words) for words, end, _ in found], [row[:2] for row in way[1]])
                use = maker.use(CELLS + ["extra"])
                self.assertEqual(followed(nodes, use), without_other_cells(outcomes(part, use), part.cells()))
        for kind, many in counts.items():
            self.assertGreater(many, 150, kind)

    def test_trees_made_by_hand(self):
        for seed in range(1500):
            with self.subTest(seed=seed):
                maker = Maker(seed)
                nodes = any_tree(maker, 0, 0)
                for _ in range(4):
                    use = [maker.setting(CELLS, range(-3, 4)) if maker.chance.random() < 0.7 else {}
                           for _ in range(maker.chance.choice((1, 2, 4, 8)))]
                    self.assertEqual(followed(nodes, use), followed_again(nodes, use))


def any_tree(maker, answers, depth):
    """A tree of the form of [12], with any sources and any cells in its nodes."""
    chance = maker.chance

    def source():
        return None if chance.random() < 0.2 else (chance.choice(CELLS + ["d"]), chance.randint(0, answers))

    kind = chance.choice(("none", "fault") if depth > 6 else ("if", "if", "answer", "answer", "answer", "none"))
    if kind == "if":
        inner = [any_tree(maker, answers, depth + 1) for _ in range(2)]
        return ("if", source(), source(), maker.number(), *inner)
    words = chance.choices(["x", "y", "z"], k=chance.randint(0, 2))
    cells = [(cell, source(), maker.number())
             for cell in chance.sample(CELLS + ["d"], chance.randint(0, 4))]
    if kind == "answer":
        return ("answer", words, cells, any_tree(maker, answers + 1, depth + 1))
    return (kind, *(["w"] if kind == "fault" else []), words, cells)


class TestLikeness(unittest.TestCase):

    def assert_parted(self, one, other, many):
        """The two parts differ, by all functions, and parting takes so many dicts."""
        for first, second in ((one, other), (other, one)):
            self.assertIs(alike(first, second), False)
            use = parting(first, second)
            self.assertEqual(len(use), many)
            cells = {*first.cells(), *second.cells()}
            tales = [without_other_cells(used_again(part.steps(), {*cells, *CELLS}, use), cells)
                     for part in (first, second)]
            self.assertEqual(len(tales[0]), many)
            self.assertEqual(tales[0][:-1], tales[1][:-1])
            self.assertNotEqual(tales[0][-1], tales[1][-1])
            frame = framing(first, second)
            runs = [Run(filled(frame, part)) for part in (first, second)]
            self.assertEqual([run.answer() for run in runs], [("answer",), ("answer",)])
            self.assertNotEqual(runs[0].said(), runs[1].said())

    def test_parts_told_otherwise(self):
        for seed in range(1500):
            with self.subTest(seed=seed):
                maker = Maker(seed)
                steps = other = part_of(maker)
                for _ in range(4):
                    changed = told_otherwise(maker, other)
                    other = changed if is_small(changed) else other
                one, two = Part(steps), Part(other)
                self.assertIs(alike(one, two), True)
                self.assertIs(alike(two, one), True)
                self.assertIsNone(parting(one, two))
                self.assertIsNone(framing(two, one))

    def test_parts_that_are_changed_a_little(self):
        counts = {}
        for seed in range(2500):
            with self.subTest(seed=seed):
                maker = Maker(seed)
                steps = maker.lively_part()
                other = changed_a_little(maker, told_otherwise(maker, steps))
                if is_small(other):
                    many = parted_at(steps, other)
                    counts[many] = counts.get(many, 0) + 1
                    one, two = Part(steps), Part(other)
                    if many is None:
                        self.assertIs(alike(one, two), True)
                        self.assertIsNone(parting(one, two))
                        self.assertIsNone(framing(one, two))
                    else:
                        self.assert_parted(one, two, many)
        for many, least in ((None, 300), (1, 300), (2, 50), (3, 10)):
            self.assertGreater(counts.get(many, 0), least, counts)


class TestInFrames(unittest.TestCase):
    """[16]: what alike parts do in frames."""

    def tale(self, part, cells):
        run = Run(part, cells)
        return run.answer(), run.said()

    def test_alike_parts_in_many_frames(self):
        ends = {"answer": 0, "none": 0, "fault": 0}
        told = 0
        for seed in range(600):
            with self.subTest(seed=seed):
                maker = Maker(seed)
                steps = other = part_of(maker)
                for _ in range(3):
                    other = told_otherwise(maker, other)
                for _ in range(4):
                    frame = Part(maker.frame())
                    one, two = filled(frame, Part(steps)), filled(frame, Part(other))
                    cells = {cell: maker.number() for cell in CELLS}
                    found = self.tale(one, cells)
                    self.assertEqual(self.tale(two, cells), found)
                    ends[found[0][0]] += 1
                    told += len(found[1]) > 2
        for kind, many in ends.items():
            self.assertGreater(many, 100, kind)
        self.assertGreater(told, 500)


if __name__ == "__main__":
    unittest.main()

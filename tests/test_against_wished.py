"""[17] to [20], [22]: many parts, made by a fixed rule, and another telling of what is decided of all their uses."""

import unittest

from heldback.likeness import alike
from heldback.parts import Part
from heldback.saves import keeping, least_saves, needless, saves
from heldback.tables import Table, by_table, matters
from heldback.wishes import dead, fulfilled, most_answers
from maker import BIG, CELLS, WORDS, Maker, is_small
from samples import all_paths, tupled
from ways import parted_at
from wished import (
    by_squares, dead_again, fewest_dicts, fulfils, keeping_again, least_saves_again, most_answers_again,
    needless_again, saves_again, way_again, with_own_steps, HOLDERS,
)


def part_of(maker):
    return maker.lively_part() if maker.chance.random() < 0.7 else maker.small_part()


def wishes_for(maker, steps):
    """One wish of each kind, most often one that can be fulfilled."""
    chance = maker.chance
    words = [step[1] for _, step in all_paths(steps) if step[0] == "say"]
    paths = [path for path, _ in all_paths(steps)] or [(0,)]
    faults = [("fault", word) for word in WORDS]
    number = chance.choice([BIG, -BIG]) if chance.random() < 0.1 else chance.randint(-4, 4)
    return [
        ("says", chance.choice(words + ["nowhere"])),
        ("ends", chance.choice([("answer",), ("none",), *faults])),
        ("answers", chance.randint(1, 5)),
        ("less", chance.choice(CELLS + ["extra"]), number),
        ("below", chance.choice(CELLS + ["extra"]), chance.choice(CELLS), number),
        ("does", chance.choice(paths)),
    ]


class TestWishes(unittest.TestCase):

    def test_fulfilled(self):
        found = {}
        for seed in range(750):
            maker = Maker(seed)
            steps = with_own_steps(part_of(maker))
            for wish in wishes_for(maker, steps):
                with self.subTest(seed=seed, wish=wish):
                    many = fewest_dicts(steps, wish)
                    use = fulfilled(Part(steps), wish)
                    key = (wish[0], "none" if many is None else "first" if many == 1 else "later")
                    found[key] = found.get(key, 0) + 1
                    if many is None:
                        self.assertIsNone(use)
                    else:
                        self.assertEqual(len(use), many)
                        self.assertTrue(fulfils(steps, use, wish))
        for kind in ("says", "ends", "answers", "less", "below", "does"):
            for case in ("none", "first", "later"):
                self.assertGreater(found.get((kind, case), 0), 4, (kind, case))

    def test_dead_and_most_answers(self):
        some = several = 0
        for seed in range(750):
            with self.subTest(seed=seed):
                maker = Maker(seed)
                steps = with_own_steps(part_of(maker))
                part = Part(steps)
                told = dead(part)
                self.assertEqual(told, dead_again(steps))
                self.assertEqual(most_answers(part), most_answers_again(steps))
                some += 0 < len(told) < len(part)
                several += most_answers(part) > 2
        self.assertGreater(some, 300)
        self.assertGreater(several, 100)

    def test_dead_steps_are_those_that_no_wish_does(self):
        for seed in range(150):
            part = Part(part_of(Maker(seed)))
            paths = [path for path, _ in all_paths(part.steps())]
            self.assertEqual(dead(part), [path for path in paths if fulfilled(part, ("does", path)) is None])


class TestSaves(unittest.TestCase):

    def test_saves_and_keeping(self):
        for seed in range(800):
            with self.subTest(seed=seed):
                maker = Maker(seed)
                steps = tupled(maker.part())
                own = saves_again(steps)
                self.assertEqual(saves(Part(steps)), own)
                kept = [save for save in own if maker.chance.random() < 0.6]
                maker.chance.shuffle(kept)
                found = keeping(Part(steps), kept + kept[:1])
                self.assertEqual(found.steps(), keeping_again(steps, kept))

    def test_needless_and_least_saves(self):
        counts = {"few": 0, "all": 0, "some": 0, "together": 0}
        for seed in range(1200):
            maker = Maker(seed)
            steps = tupled(maker.lively_part())
            own = saves_again(steps)
            if not 1 <= len(own) <= 4:
                continue
            with self.subTest(seed=seed):
                part = Part(steps)
                alone, least = needless(part), least_saves(part)
                self.assertEqual(alone, needless_again(steps))
                self.assertEqual(least, least_saves_again(steps))
                self.assertIs(alike(part, keeping(part, least)), True)
                counts["few"] += len(least) == 0
                counts["all"] += least == own
                counts["some"] += 0 < len(least) < len(own)
                counts["together"] += len(alone) != len(own) - len(least)
        for kind, least in (("few", 100), ("all", 50), ("some", 50), ("together", 2)):
            self.assertGreater(counts[kind], least, counts)


class TestTables(unittest.TestCase):

    def test_by_table_and_matters(self):
        some = 0
        for seed in range(600):
            maker = Maker(seed)
            steps = tupled(maker.lively_part())
            ways = sorted({way_again(step) for _, step in all_paths(steps) if step[0] in HOLDERS})
            cells = maker.chance.sample(CELLS + ["extra"], 2)
            squares = [(cell, way) for cell in sorted(cells) for way in ways]
            if len(squares) > 8 or not is_small(steps):
                continue
            with self.subTest(seed=seed):
                back = [square for square in squares if maker.chance.random() < 0.5]
                table = Table(cells, ways, back)
                part = Part(steps)
                self.assertEqual(by_table(part, table).steps(), by_squares(steps, back))
                told = matters(part, table)
                expected = [square for square in squares
                            if parted_at(by_squares(steps, back), by_squares(steps, {*back} ^ {square})) is not None]
                self.assertEqual(told, expected)
                some += 0 < len(told) < len(squares)
        self.assertGreater(some, 50)


if __name__ == "__main__":
    unittest.main()

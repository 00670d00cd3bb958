"""The whole program: a part told in each of its forms comes to the same words, ends and cells."""

import unittest

from coded import Runner
from heldback.codes import code
from heldback.frames import filled, framing
from heldback.likeness import alike, parting
from heldback.machines import Machine
from heldback.parts import Part
from heldback.piles import crossing, of_pile, piled
from heldback.rules import fitting, rewritten, short
from heldback.runs import Run
from heldback.saves import keeping, least_saves, saves
from heldback.tables import Table, by_table, table_of
from heldback.texts import read, text
from heldback.trees import followed, tree
from heldback.uses import outcomes
from heldback.wishes import dead, fulfilled, most_answers
from maker import CELLS, WORDS, Maker, counted, is_small
from model import Model
from samples import all_paths

ANSWER = ("answer",)
X, BACK, HOLE = ("say", "x"), ("back",), ("hole",)


def used(thing, use):
    """The outcomes of a run or a machine that is used so."""
    found, before = [], 0
    for setting in use:
        if thing.ended is None:
            for cell, n in setting.items():
                thing[cell] = n
            end = thing.answer()
            found.append((thing.said()[before:], end, thing.cells()))
            before = len(thing.said())
    return found


def by_model(steps, cells, use):
    """The outcomes of the model of [9]."""
    model = Model(steps, {cell: 0 for cell in cells})
    found, before, end = [], 0, ANSWER
    for setting in use:
        if end == ANSWER:
            model.worth.update(setting)
            end = model.answer()
            found.append((model.words[before:], end, sorted(model.worth.items())))
            before = len(model.words)
    return found


def small_parts(many):
    """Pairs of a maker and steps within the limits of [5] for trees."""
    for seed in range(many):
        maker = Maker(seed)
        yield maker, (maker.lively_part() if seed % 3 else maker.small_part())


def whole_use(maker, cells, many):
    """A use of so many dicts; the first one has all cells."""
    first = {cell: maker.chance.randint(-3, 3) for cell in cells}
    return [first, *[maker.setting(cells, range(-3, 4)) for _ in range(many - 1)]]


class TestOnePart(unittest.TestCase):

    def check(self, maker, steps, many):
        """All forms of the part tell the same of a use with so many dicts; its tree only of small parts."""
        part = Part(steps)
        cells = sorted({*CELLS, *part.cells()})
        use = whole_use(maker, cells, many)
        zeros = {cell: 0 for cell in cells}
        expected = by_model(steps, cells, use)
        self.assertEqual(outcomes(part, use), expected)
        self.assertEqual(outcomes(read(text(part)), use), expected)
        self.assertEqual(outcomes(short(part), use), expected)
        self.assertEqual(outcomes(short(read(text(short(part)))), use), expected)
        for thing in (Run(part, zeros), Machine(part, zeros), Machine(part, zeros, trail=True), Machine(short(part), zeros, trail=True),
                      Run(filled(Part([HOLE]), part), zeros), Run(filled(part, Part([])), zeros)):
            self.assertEqual(used(thing, use), expected)
        for trail in (False, True):
            runner = Runner(code(part), zeros, trail)
            self.assertEqual(self.by_runner(runner, use), [(words, end) for words, end, _ in expected])
        if is_small(steps):
            told = [(words, end, [pair for pair in pairs if pair[0] in part.cells()]) for words, end, pairs in expected]
            self.assertEqual(followed(tree(part), use), told)
            self.assertTrue(alike(part, short(part)))
            self.assertTrue(alike(read(text(part)), part))
        return expected

    def by_runner(self, runner, use):
        found, before = [], 0
        for setting in use:
            if runner.end is None:
                for cell, n in setting.items():
                    runner.give(cell, n)
                end = runner.answer()
                found.append((runner.words[before:], end))
                before = len(runner.words)
        return found

    def test_small_parts(self):
        ends = {"answer": 0, "none": 0, "fault": 0}
        for maker, steps in small_parts(450):
            with self.subTest(steps=steps):
                for _, end, _ in self.check(maker, steps, 6):
                    ends[end[0]] += 1
        for kind, many in ends.items():
            self.assertGreater(many, 30, kind)

    def test_parts_of_forty_steps(self):
        longest = 0
        for seed in range(120):
            maker = Maker(seed)
            steps = large_part(maker)
            with self.subTest(seed=seed):
                self.assertEqual(len(Part(steps)), 40)
                self.assertLessEqual(counted(steps)[1], 8)
                # A path of a step in lists ten deep has ten indexes, and the numbers of nine lists.
                self.assertEqual(max(len(path) for path, _ in all_paths(steps)), 19)
                longest = max(longest, len(self.check(maker, steps, 20)))
        self.assertEqual(longest, 20)

    def test_eight_choices(self):
        held = ["a", "b"]
        steps = [("either", held[at % 2:], [("add", "a", at), ("less", "a", 9, [X], [])], [("add", "c", 1)])
                 for at in range(8)]
        found = self.check(Maker(1), steps[:5] + [("either", ["c"], [X], [("add", "c", 1)])] * 3, 20)
        self.assertEqual(len(found), 20)
        run = Run(Part(steps))
        self.assertEqual(len(Part(steps)), 40)
        many = 0
        while run.answer() == ANSWER:
            many += 1
        self.assertEqual(many, 256)

    def test_lists_ten_deep(self):
        steps = [("add", "c", 1), X]
        for at in range(9):
            steps = [("either", ["c"], steps, [("add", "d", 1)]) if at % 3 else ("catch", "w", ["d"], steps, [X]), ("add", "a", 1), HOLE]
        self.assertEqual(max(len(path) for path, _ in all_paths(steps)), 19)
        self.check(Maker(2), steps, 20)


def large_part(maker):
    """A part of forty steps, in lists ten deep, with at most eight choices."""
    chance = maker.chance
    rows = leaves(maker, 1)
    choices = 0
    for _ in range(9):
        cell, other = chance.choice(CELLS), chance.choice(CELLS)
        heads = [("less", cell, maker.number()), ("below", cell, other, maker.number()), ("times", 1), ("last",),
                 ("catch", chance.choice(WORDS), maker.held())]
        if choices < 8:
            heads += [(word, maker.held()) for word in ("either", "whether", "each")]
        head = chance.choice(heads)
        choices += head[0] in ("either", "whether", "each")
        lists = [leaves(maker, 1) for _ in LISTS[head[0]]]
        lists[chance.randrange(len(lists))] = rows
        rows = [(*head, *lists)]
        if counted(rows)[0] < 36 and chance.random() < 0.5:
            rows.insert(chance.choice((0, 1)), *leaves(maker, 1))
    while counted(rows)[0] < 40:
        if choices < 8 and counted(rows)[0] < 38:
            choices += 1
            rows.append(("either", maker.held(), leaves(maker, 1), []))
        else:
            rows += leaves(maker, 1)
    return rows


# The numbers of the lists of the steps that have some.
LISTS = {"less": (0, 1), "below": (0, 1), "times": (0,), "catch": (0, 1), "last": (0, 1), "either": (0, 1), "whether": (0, 1, 2),
         "each": (0, 1)}


def leaves(maker, many):
    """So many steps without lists; few of them break off."""
    found = []
    while len(found) < many:
        step = maker.step(9)
        if step[0] not in ("fault", "back") or maker.chance.random() < 0.3:
            found.append(step)
    return found


class TestPromises(unittest.TestCase):
    """What the overview promises, over several modules together."""

    def test_alike_or_told_from_each_other(self):
        # [2], [16]: alike, or a use and a frame in which the two do not the same.
        parted = 0
        one = Part([X])
        for _, steps in small_parts(300):
            one, other = Part(steps), one
            use, frame = parting(one, other), framing(one, other)
            self.assertEqual((use is None, frame is None), (alike(one, other),) * 2)
            if use is not None:
                parted += 1
                tales = [outcomes(part, use)[-1][:2] for part in (one, other)]
                cells = [dict(outcomes(part, use)[-1][2]) for part in (one, other)]
                self.assertTrue(tales[0] != tales[1] or cells[0] != cells[1])
                words = []
                for part in (one, other):
                    run = Run(filled(frame, part))
                    self.assertEqual(run.answer(), ANSWER)
                    machine = Machine(read(text(filled(frame, part))))
                    self.assertEqual(machine.answer(), ANSWER)
                    self.assertEqual(machine.said(), run.said())
                    words.append(run.said())
                self.assertNotEqual(*words)
        self.assertGreater(parted, 250)

    def test_uses_that_are_returned(self):
        # What fulfils a wish does so in each form of the part.
        found = 0
        for maker, steps in small_parts(250):
            part = Part(steps)
            for word in part.words():
                use = fulfilled(part, ("says", word))
                if use is not None:
                    found += 1
                    zeros = {cell: 0 for cell in part.cells()}
                    for thing in (Machine(part, zeros), Machine(part, zeros, trail=True), Run(short(part), zeros)):
                        told = used(thing, use)
                        self.assertEqual(len(told), len(use))
                        self.assertIn(word, told[-1][0])
                    self.assertIn(word, followed(tree(part), use)[-1][0])
            self.assertEqual(fulfilled(part, ("answers", most_answers(part) + 1)), None)
            if most_answers(part):
                use = fulfilled(part, ("answers", most_answers(part)))
                self.assertEqual([row[1] for row in outcomes(part, use)], [ANSWER] * most_answers(part))
        self.assertGreater(found, 500)

    def test_steps_that_no_use_does(self):
        # Whatever stands in the place of a dead step, the part does the same.
        found = 0
        for _, steps in small_parts(250):
            part = Part(steps)
            for path in dead(part):
                found += 1
                for other in ([], [("say", "never")], [("fault", "never")]):
                    self.assertTrue(alike(part, part.replaced(path, other)))
        self.assertGreater(found, 200)

    def test_saves_that_are_enough(self):
        for _, steps in small_parts(200):
            part = Part(steps)
            if len(saves(part)) <= 5:
                least = keeping(part, least_saves(part))
                self.assertTrue(alike(part, least))
                self.assertEqual(saves(least), least_saves(part))

    def test_tables_and_piles(self):
        # [23]: a part by the table of a pile; each table has either a pile or a crossing.
        for maker, steps in small_parts(200):
            part = Part(steps)
            layers = [("cell", cell) for cell in CELLS] + [("way", way) for way in ("back", "u", "v", "w", "noword")]
            maker.chance.shuffle(layers)
            told = by_table(part, of_pile(layers))
            table = table_of(told)
            self.assertEqual(by_table(told, table), told)
            self.assertIsNotNone(piled(table))
            self.assertIsNone(crossing(table))
            table = Table(CELLS, ["back", "u", "v"], [(cell, way) for cell in CELLS for way in ("back", "u", "v")
                                                      if maker.chance.random() < 0.5])
            self.assertNotEqual(piled(table) is None, crossing(table) is None)

    def test_rules_and_texts(self):
        # [28]: what a rule makes of a part is alike to it; its text is read again.
        for _, steps in small_parts(150):
            part = Part(steps)
            for path, rule in fitting(part):
                made = rewritten(part, rule, path)
                self.assertEqual(read(text(made)), made)
                if is_small(made.steps()):
                    self.assertTrue(alike(made, part))

    def test_what_the_package_returns_may_be_passed_again(self):
        frame = framing(Part([("either", ["c"], [X], [("add", "c", 1)])]), Part([("either", [], [X], [("add", "c", 1)])]))
        self.assertEqual(read(text(frame)), frame)
        self.assertEqual(Part(frame.steps()), frame)
        self.assertTrue(set(short(frame).cells()) <= set(frame.cells()))
        large = filled(Part([HOLE, ("last", [HOLE] * 38, [])]), Part([("add", "c", 1), X] * 20))
        self.assertEqual(len(large), 1561)
        self.assertEqual(read(text(large)), large)
        self.assertEqual(outcomes(short(large), [{"c": 1}]), outcomes(large, [{"c": 1}]))
        self.assertEqual(dict(keeping(large, saves(large))()), {"c": 20 * 39})
        self.assertEqual(len(fitting(large)), 1)


if __name__ == "__main__":
    unittest.main()

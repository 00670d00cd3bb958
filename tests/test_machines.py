"""[26]: machines, with a trail and without one, beside runs of the same parts."""

import unittest

from coded import Runner, code_again
from heldback.errors import BadUse, NotName, NotNumber, Over
from heldback.machines import Machine
from heldback.parts import Part
from heldback.runs import Run
from heldback.uses import outcomes
from maker import CELLS, Maker
from model import Model
from samples import ANYTHING, BAD_INTEGERS, BAD_NAMES, BIG, NESTED, listed

ANSWER, NONE, BACK = ("answer",), ("none",), ("back",)
X, Y, Z = ("say", "x"), ("say", "y"), ("say", "z")


def both(steps, cells=None):
    """The two machines of the steps."""
    return [Machine(Part(steps), cells), Machine(Part(steps), cells, trail=True)]


def tale(thing, most=60):
    """What a run or a machine comes to, again and again, up to its end."""
    told = [(None, thing.said(), thing.cells(), thing.ended)]
    while thing.ended is None and len(told) < most:
        end = thing.answer()
        told.append((end, thing.said(), thing.cells(), thing.ended))
    return told


class TestBesideRuns(unittest.TestCase):

    def check(self, steps, cells=None):
        expected = tale(Run(Part(steps), cells))
        for given in (steps, listed(steps)):
            for machine in both(given, cells):
                self.assertEqual(tale(machine), expected)
        return expected

    def words(self, steps, expected):
        self.assertEqual(" ".join(self.check(steps)[-1][1]), expected)

    def test_each_step(self):
        self.words([], "")
        self.words([X, ("hole",), Y], "x y")
        for change in (("set", "c", 3), ("add", "c", -3), ("copy", "c", "d", 2), ("copy", "c", "c", BIG)):
            for c in (-BIG, -1, 0, 2):
                told = self.check([change, X], {"c": c, "d": 7, "other": 1})
                self.assertEqual([row[0] for row in told[1:]], [ANSWER, NONE])
        for c in range(-1, 4):
            self.check([("less", "c", 1, [X], [Y]), Z], {"c": c})
            for d in range(-1, 4):
                self.check([("below", "c", "d", 1, [X], [Y]), Z], {"c": c, "d": d})
        for many in range(4):
            self.words([("times", many, [X, Y])], " ".join(["x y"] * many))
        self.words([("last", [X], [Y]), Z], "x y z")
        self.words([X, BACK, Y], "x")
        self.words([("either", [], [X], [Y]), Z], "x z y z")
        self.words([("whether", [], [X], [Y], [Z])], "x y")
        self.words([("whether", [], [BACK], [Y], [Z])], "z")
        self.words([("each", [], [("either", [], [X], [Y])], [Z]), ("say", "end")], "x z y z end")

    def test_names_like_words_of_instructions(self):
        for word in ("answer", "go", "mark", "close", "leave", "again", "open", "last", "word"):
            self.words([("say", word), X], word + " x")
            self.words([("catch", word, [word], [("add", word, 1), ("last", [("fault", word)], [X])], [Y]), Z], "x y z")
            self.check([("last", [("whether", [], [("fault", word)], [], [])], [X])])

    def test_faults_through_catches_and_lasts(self):
        fault = ("fault", "w")
        self.words([X, fault, Y], "x")
        self.words([("catch", "w", [], [X, fault, Y], [Z]), Z], "x z z")
        self.words([("catch", "v", [], [X, fault, Y], [Z]), Z], "x")
        self.words([("last", [X, fault], [Y]), Z], "x y")
        self.words([("catch", "w", [], [("last", [("catch", "v", [], [X, fault], [X])], [Y])], [Z]), ("say", "end")], "x y z end")
        self.words([("catch", "w", [], [("last", [("last", [fault], [X])], [Y])], [Z])], "x y z")
        self.words([("catch", "w", [], [("catch", "v", [], [("last", [fault], [X, ("fault", "v"), X])], [Y])], [Z])], "x y")
        # A fault out of what a last does in the end: the first fault is gone.
        self.words([("catch", "w", [], [("last", [("catch", "v", [], [("fault", "v")], [X])], [Y, fault])], [Z])], "x y z")
        self.words([("catch", "w", [], [("catch", "w", [], [fault], [X, fault])], [Y])], "x y")
        told = self.check([("last", [fault], [("last", [("fault", "v")], [X])]), Y])
        self.assertEqual(told[-1][0], ("fault", "v"))

    def test_what_a_last_does_is_caught_within_it(self):
        inner = ("catch", "v", ["c"], [("add", "c", 1), ("fault", "v")], [Y])
        self.words([("catch", "w", [], [("last", [("fault", "w")], [X, inner])], [Z])], "x y z")

    def test_choices_opened_within_and_resumed(self):
        fault = ("fault", "w")
        # What is resumed stands again inside the catch.
        self.words([("catch", "w", ["c"], [("either", [], [X], [fault])], [Y]), Z], "x z y z")
        self.words([("last", [("either", [], [X], [Y])], [Z])], "x z y z")
        self.words([("catch", "w", [], [("last", [("either", [], [X], [fault])], [Z])], [Y])], "x z z y")
        self.check([("catch", "w", ["c"], [("add", "c", 1), ("either", ["d"], [("add", "c", 1)], [("add", "c", 5), fault])],
                     [("copy", "d", "c", 0)]), ("add", "c", 10)], {"c": 100})
        self.check([("catch", "w", ["c"], [("either", ["c"], [], [("either", [], [], [fault])])], [X]), ("add", "c", 1)])

    def test_choices_closed_by_a_fault_or_a_whether(self):
        fault = ("fault", "w")
        self.words([("catch", "w", [], [("either", [], [fault], [X])], [Y])], "y")
        self.words([("either", [], [X], [Y]), ("catch", "w", [], [("either", [], [fault], [X])], [Z])], "x z y z")
        self.words([("last", [("either", [], [("either", [], [fault], [X])], [Y])], [Z])], "z")
        self.words([("whether", [], [("either", [], [X], [Y])], [Z], [])], "x z")
        self.words([("either", [], [X], [Y]), ("whether", [], [("either", [], [], [X])], [("either", [], [], [Z])], [])], "x z y z")
        self.words([("whether", [], [("whether", [], [BACK], [X], [Y, BACK])], [Z], [("say", "no")])], "y no")
        self.words([("catch", "w", [], [("whether", [], [("either", [], [fault], [])], [X], [Y])], [Z])], "z")

    def test_cells_that_are_put_back(self):
        for held in ([], ["c"], ["d"], ["d", "c"]):
            self.check([("set", "c", 1), ("either", held, [("add", "c", 5), ("set", "d", 3), BACK], []), ("add", "c", 1)])
            self.check([("catch", "w", held, [("add", "c", 5), ("set", "d", 3), ("fault", "w")], []), ("add", "c", 1)], {"c": 9})
            self.check([("whether", held, [("add", "c", 5), ("set", "d", 3), BACK], [], [("add", "c", 1)])], {"d": 9})
            self.check([("each", held, [("either", held, [("add", "c", 5)], [("add", "d", 3)])], [("add", "c", 1)])])
            self.check([("catch", "w", held, [("either", ["c"], [("add", "d", 2), BACK], [("copy", "c", "d", 1), ("fault", "w")])],
                         [])])

    def test_cells_given_and_not(self):
        for cells in (None, {}, {"c": 3}, {"other": 4, "c": -BIG}, {"c": 10 ** 45}):
            self.check([("add", "c", 1), ("either", ["c"], [], [("add", "d", 2)])], cells)

    def test_words_ends_and_cells_of_nested_parts(self):
        for c in (0, 3, -5):
            self.check(NESTED, {"c": c, "k": 1})

    def test_cells_set_between_answers(self):
        steps = [("add", "d", 1), ("either", ["c"], [("less", "c", 3, [X], [Y])], [("less", "c", 3, [X], [("less", "d", 3, [Y], [Z])])]),
                 ("add", "c", 1)]
        settings = [{"c": 5}, {"c": 8, "d": 9, "new": 2}, {"d": -1}, {"c": 7, "q": 1}]
        run = Run(Part(steps))
        machines = both(steps)
        for cells in settings:
            for thing in (run, *machines):
                for cell, n in cells.items():
                    thing[cell] = n
                    self.assertEqual(thing[cell], n)
            if run.ended is None:
                end = run.answer()
                self.assertEqual([machine.answer() for machine in machines], [end, end])
            for machine in machines:
                self.assertEqual((machine.cells(), machine.said(), machine.ended), (run.cells(), run.said(), run.ended))
                self.assertEqual([machine[cell] for cell in ("c", "d", "new", "q", "never")],
                                 [run[cell] for cell in ("c", "d", "new", "q", "never")])

    def test_many_parts(self):
        counts = {"answer": 0, "none": 0, "fault": 0}
        trails = 0
        for seed in range(1500):
            maker = Maker(seed)
            steps = maker.part() if seed % 2 else maker.lively_part()
            with self.subTest(seed=seed):
                cells = {cell: maker.number() for cell in CELLS}
                machines, model = both(steps, cells), Model(steps, cells)
                runner = Runner(code_again(steps), cells, True)
                end = None
                for _ in range(8):
                    if end is None or end == ANSWER:
                        end = model.answer()
                        self.assertEqual([machine.answer() for machine in machines], [end, end])
                        self.assertEqual(runner.answer(), end)
                        counts[end[0]] += 1
                    cell, n = maker.chance.choice([*CELLS, "extra"]), maker.number()
                    for machine in machines:
                        self.assertEqual((machine.said(), dict(machine.cells())), (model.words, model.worth))
                        self.assertEqual(machine.ended, None if end == ANSWER else end)
                        machine[cell] = n
                    self.assertEqual(machines[1].trail()[:-1], runner.trail)
                    trails += len(runner.trail) > 3
                    model.worth[cell] = n
                    runner.give(cell, n)
                    self.assertEqual(machines[1].trail(), runner.trail)
                    self.assertEqual(machines[0].trail(), [])
        for kind, many in counts.items():
            self.assertGreater(many, 200, kind)
        self.assertGreater(trails, 1000)

    def test_outcomes(self):
        for seed in range(300):
            maker = Maker(seed)
            part = Part(maker.lively_part())
            use = maker.use()
            cells = {cell: 0 for setting in use for cell in setting}
            for trail in (False, True):
                machine = Machine(part, cells, trail=trail)
                found, before = [], 0
                for setting in use:
                    if machine.ended is None:
                        for cell, n in setting.items():
                            machine[cell] = n
                        end = machine.answer()
                        found.append((machine.said()[before:], end, machine.cells()))
                        before = len(machine.said())
                self.assertEqual(found, outcomes(part, use))


class TestTrail(unittest.TestCase):

    def check(self, machine, pairs):
        found = machine.trail()
        self.assertEqual(found, pairs)
        self.assertIs(type(found), list)
        self.assertTrue(all(type(pair) is tuple for pair in found))

    def test_pair_by_pair(self):
        machine = Machine(Part([("set", "c", 5), ("add", "c", 2), ("copy", "d", "c", 1), ("set", "c", 7)]), {"c": 1}, trail=True)
        self.check(machine, [])
        machine.answer()
        pairs = [("c", 1), ("c", 5), ("d", 0), ("c", 7)]
        self.check(machine, pairs)
        self.assertEqual(machine.answer(), NONE)
        self.check(machine, pairs)

    def test_cells_that_are_given_are_no_pairs(self):
        self.check(Machine(Part([]), {"c": 1, "q": 4}, trail=True), [])

    def test_each_set_cell(self):
        machine = Machine(Part([("add", "c", 1), ("either", [], [], [])]), {"c": 4}, trail=True)
        machine["c"] = 6
        self.check(machine, [("c", 4)])
        machine["c"] = 6
        machine["new"] = 3
        self.check(machine, [("c", 4), ("c", 6), ("new", 0)])
        machine.answer()
        self.check(machine, [("c", 4), ("c", 6), ("new", 0), ("c", 6)])
        machine["new"] = 8
        machine["c"] = 0
        self.check(machine, [("c", 4), ("c", 6), ("new", 0), ("c", 6), ("new", 3), ("c", 7)])
        machine.answer()
        machine.answer()
        self.assertEqual(machine.ended, NONE)
        machine["c"] = 1
        self.check(machine, [("c", 4), ("c", 6), ("new", 0), ("c", 6), ("new", 3), ("c", 7), ("c", 0)])
        self.assertEqual((machine["c"], machine["new"]), (1, 8))

    def test_held_cells_are_put_back_and_the_other_pairs_stay(self):
        changes = [("set", "c", 1), ("set", "d", 2), ("add", "c", 3), ("set", "e", 4), ("add", "d", 5), ("add", "c", 6)]
        for held, pairs, values in (
            ([], [("c", 7), ("d", 8), ("c", 1), ("e", 9), ("d", 2), ("c", 4)], {"c": 10, "d": 7, "e": 4}),
            (["c"], [("d", 8), ("e", 9), ("d", 2)], {"c": 7, "d": 7, "e": 4}),
            (["e", "c"], [("d", 8), ("d", 2)], {"c": 7, "d": 7, "e": 9}),
            (["d"], [("c", 7), ("c", 1), ("e", 9), ("c", 4)], {"c": 10, "d": 8, "e": 4}),
            (["c", "d", "e"], [], {"c": 7, "d": 8, "e": 9}),
        ):
            for steps in ([("either", held, [*changes, BACK], [])], [("catch", "w", held, [*changes, ("fault", "w")], [])],
                          [("whether", held, [*changes, BACK], [], [])], [("each", held, [], changes)]):
                with self.subTest(steps=steps):
                    machine = Machine(Part([("set", "e", 9), ("set", "d", 8), *steps]), {"c": 7, "e": 1}, trail=True)
                    self.assertEqual(machine.answer(), ANSWER)
                    self.check(machine, [("e", 1), ("d", 0), *pairs])
                    self.assertEqual({cell: machine[cell] for cell in values}, values)

    def test_pairs_ahead_of_the_length_stay(self):
        machine = Machine(Part([("set", "c", 1), ("either", ["c"], [("set", "c", 2)], [("set", "c", 3)]), ("add", "c", 1)]), trail=True)
        machine.answer()
        self.check(machine, [("c", 0), ("c", 1), ("c", 2)])
        machine["c"] = 50
        machine["d"] = 60
        machine.answer()
        # Back to the choice: the setting of c by hand is taken back, too.
        self.check(machine, [("c", 0), ("d", 0), ("c", 1), ("c", 3)])
        self.assertEqual((machine["c"], machine["d"]), (4, 60))
        machine.answer()
        self.check(machine, [("c", 0), ("d", 0), ("c", 1), ("c", 3)])

    def test_choices_within_choices(self):
        steps = [("either", ["c"], [("add", "c", 1), ("either", ["d"], [("add", "c", 2), ("add", "d", 3)], [])], [])]
        machine = Machine(Part(steps), trail=True)
        machine.answer()
        self.check(machine, [("c", 0), ("c", 1), ("d", 0)])
        machine.answer()
        self.check(machine, [("c", 0), ("c", 1)])
        self.assertEqual(machine.cells(), [("c", 3), ("d", 0)])
        machine.answer()
        self.check(machine, [])
        self.assertEqual(machine.cells(), [("c", 0), ("d", 0)])

    def test_a_catch_that_is_resumed(self):
        steps = [("catch", "w", ["c"], [("add", "c", 1), ("either", [], [("add", "c", 5)], [("add", "d", 1), ("fault", "w")])], [])]
        machine = Machine(Part(steps), {"c": 10}, trail=True)
        machine.answer()
        self.check(machine, [("c", 10), ("c", 11)])
        machine.answer()
        self.check(machine, [("d", 0)])
        self.assertEqual(machine.cells(), [("c", 10), ("d", 1)])

    def test_at_the_end(self):
        for steps, pairs, end in (
            ([("set", "c", 1), ("fault", "w")], [("c", 0)], ("fault", "w")),
            ([("catch", "v", ["c"], [("set", "c", 1), ("fault", "w")], [])], [("c", 0)], ("fault", "w")),
            ([("set", "c", 1), BACK], [("c", 0)], NONE),
            ([("either", ["c"], [("set", "c", 1), BACK], [("set", "c", 2), BACK])], [("c", 0)], NONE),
            ([("last", [("set", "c", 1), ("fault", "w")], [("set", "c", 2)])], [("c", 0), ("c", 1)], ("fault", "w")),
        ):
            machine = Machine(Part(steps), trail=True)
            self.assertEqual(machine.answer(), end)
            self.check(machine, pairs)

    def test_no_trail_without_one(self):
        for machine in (Machine(Part([("set", "c", 1), ("either", ["c"], [], [])])), Machine(Part([("set", "c", 1)]), {}, trail=False)):
            self.check(machine, [])
            machine["c"] = 4
            machine.answer()
            self.check(machine, [])
            machine.answer()
            self.check(machine, [])

    def test_a_returned_list_is_a_new_one(self):
        machine = Machine(Part([("set", "c", 1), ("either", ["c"], [("set", "c", 2)], [])]), trail=True)
        machine.answer()
        machine.trail().clear()
        self.check(machine, [("c", 0), ("c", 1)])
        machine.answer()
        self.assertEqual(machine.cells(), [("c", 1)])


class TestInterface(unittest.TestCase):

    def test_before_it_begins(self):
        for machine in both([("add", "c", 1), X], {"d": 4}):
            self.assertIsNone(machine.ended)
            self.assertEqual((machine.said(), machine.cells(), machine.trail()), ([], [("c", 0), ("d", 4)], []))
            self.assertEqual((machine["c"], machine["d"], machine["e"]), (0, 4, 0))
            machine["c"] = 10
            self.assertEqual(machine.answer(), ANSWER)
            self.assertEqual(machine.cells(), [("c", 11), ("d", 4)])

    def test_reading_does_not_name_a_cell(self):
        for machine in both([]):
            self.assertEqual(machine["q"], 0)
            self.assertEqual(machine.cells(), [])
            machine["q"] = 0
            self.assertEqual(machine.cells(), [("q", 0)])

    def test_ascending_cells(self):
        for machine in both([("set", "d", 1), ("either", ["b"], [], [])], {"z": 1, "a": 2}):
            machine["c"] = 3
            self.assertEqual(machine.cells(), [("a", 2), ("b", 0), ("c", 3), ("d", 0), ("z", 1)])
            self.assertTrue(all(type(pair) is tuple for pair in machine.cells()))

    def test_the_trail_is_passed_by_name_only(self):
        with self.assertRaises(TypeError):
            Machine(Part([]), {}, True)
        self.assertEqual(Machine(trail=True, cells={"c": 1}, part=Part([])).cells(), [("c", 1)])

    def test_wrong_cells(self):
        for cells in [*[thing for thing in ANYTHING if thing is not None], 0, 5, "c", {"c": None}, {"C": 1}, {1: 1}, {"c": True},
                      {"c": "1"}, {None: 1}, {("c",): 1}, {"c": 1, "d": [1]}, {"": 0}, [("c", 1)]]:
            for trail in (False, True):
                with self.assertRaises(BadUse) as held:
                    Machine(Part([]), cells, trail=trail)
                self.assertEqual(held.exception.index, 0)

    def test_over(self):
        for steps, end in (([], NONE), ([BACK], NONE), ([("fault", "w")], ("fault", "w"))):
            for machine in both(steps, {"c": 1}):
                while machine.ended is None:
                    found = machine.answer()
                self.assertEqual((found, machine.ended), (end, end))
                for _ in range(2):
                    with self.assertRaises(Over):
                        machine.answer()
                    self.assertEqual((machine.ended, machine.said(), machine.cells()), (end, [], [("c", 1)]))
                machine["c"] = 2
                self.assertEqual(machine["c"], 2)

    def test_ended_is_not_assigned(self):
        for machine in both([]):
            with self.assertRaises(AttributeError):
                machine.ended = NONE

    def test_what_is_no_name(self):
        for machine in both([("add", "c", 1)]):
            for key in [*BAD_NAMES, (("c",),), ("c", "d")]:
                with self.assertRaises(NotName) as held:
                    machine[key]
                self.assertEqual(held.exception.key, key)
                for value in (1, None, True):
                    with self.assertRaises(NotName) as held:
                        machine[key] = value
                    self.assertEqual(held.exception.key, key)
            self.assertEqual((machine.cells(), machine.trail()), ([("c", 0)], []))

    def test_what_is_no_number(self):
        for machine in both([("add", "c", 1)]):
            for value in BAD_INTEGERS:
                for cell in ("c", "new"):
                    with self.assertRaises(NotNumber) as held:
                        machine[cell] = value
                    self.assertEqual(held.exception.value, value)
            self.assertEqual((machine.cells(), machine.trail()), ([("c", 0)], []))
            self.assertEqual(machine.answer(), ANSWER)

    def test_large_values(self):
        for machine in both([("add", "c", BIG), ("copy", "d", "c", BIG), ("below", "c", "d", -BIG, [X], [Y])], {"c": 10 ** 60}):
            machine["e"] = 10 ** 80
            machine.answer()
            self.assertEqual(machine.cells(), [("c", 10 ** 60 + BIG), ("d", 10 ** 60 + 2 * BIG), ("e", 10 ** 80)])
            self.assertEqual(machine.said(), ["y"])

    def test_two_machines_of_one_part_go_on_apart(self):
        part = Part([("add", "c", 1), ("either", ["c"], [X], [Y])])
        for trail in (False, True):
            one, other = Machine(part, trail=trail), Machine(part, trail=trail)
            one.answer()
            one["c"] = 50
            self.assertEqual((other.cells(), other.said(), other.trail(), other.ended), ([("c", 0)], [], [], None))
            other.answer()
            one.answer()
            one.answer()
            self.assertEqual((other.cells(), other.said(), other.ended), ([("c", 1)], ["x"], None))
            self.assertEqual(one.ended, NONE)
            self.assertEqual(other.answer(), ANSWER)

    def test_arguments_and_returned_lists(self):
        cells = {"c": 1}
        for machine in both([("say", "x"), ("add", "c", 1), ("either", ["c"], [], [])], cells):
            cells["c"] = 5
            cells["d"] = 6
            self.assertEqual(machine.cells(), [("c", 1)])
            machine.answer()
            self.assertEqual(cells, {"c": 5, "d": 6})
            machine.said().append("y")
            machine.cells().clear()
            self.assertEqual((machine.said(), machine.cells()), (["x"], [("c", 2)]))
            cells.clear()
            cells["c"] = 1


if __name__ == "__main__":
    unittest.main()

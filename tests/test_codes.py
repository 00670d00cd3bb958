"""[24], [25]: the code of parts, and that it does what they do."""

import unittest

from coded import Runner, code_again
from heldback.codes import code
from heldback.parts import Part
from heldback.runs import Run
from maker import CELLS, Maker
from samples import BIG, NESTED, lists_within, listed, steps_of_each_kind, tupled

X, Y, Z = ("say", "x"), ("say", "y"), ("say", "z")
ANSWER, LEAVE, BACK = ("answer",), ("leave",), ("back",)
LONG = [X, Y, ("add", "c", 1), Z] * 3


class TestCode(unittest.TestCase):

    def check(self, steps, expected):
        for given in (steps, listed(steps), tupled(steps)):
            found = code(Part(given))
            self.assertEqual(found, [*expected, ANSWER])
            self.assertIs(type(found), list)
            for row in found:
                self.assertIs(type(row), tuple)
                self.assertEqual(row, tupled(row))
                self.assertTrue(all(type(item) in (tuple, str, int) for item in row))

    def test_no_steps(self):
        self.check([], [])

    def test_steps_that_stand_for_themselves(self):
        steps = [X, ("set", "c", 3), ("add", "c", -BIG), ("copy", "c", "d", 0), ("fault", "w"), BACK]
        self.check(steps, steps)
        for step in steps:
            self.check([step], [step])

    def test_hole(self):
        self.check([("hole",)], [])
        self.check([X, ("hole",), Y, ("hole",)], [X, Y])
        self.check([("less", "c", 1, [("hole",)], [("hole",), X])], [("unless", "c", 1, 2), ("go", 3), X])

    def test_less(self):
        self.check([("less", "c", 4, [X, Y], [Z])], [("unless", "c", 4, 4), X, Y, ("go", 5), Z])
        self.check([("less", "c", 4, [], [])], [("unless", "c", 4, 2), ("go", 2)])
        self.check([("less", "c", 4, [X], [])], [("unless", "c", 4, 3), X, ("go", 3)])
        self.check([("less", "c", 4, [], [X, Y, Z]), X], [("unless", "c", 4, 2), ("go", 5), X, Y, Z, X])

    def test_below(self):
        self.check([("below", "c", "d", -4, [X, Y], [Z])], [("beyond", "c", "d", -4, 4), X, Y, ("go", 5), Z])
        self.check([("below", "c", "d", 0, [], [])], [("beyond", "c", "d", 0, 2), ("go", 2)])
        self.check([X, ("below", "c", "c", 1, [], [Z]), Y], [X, ("beyond", "c", "c", 1, 3), ("go", 4), Z, Y])

    def test_times(self):
        for many in range(4):
            self.check([("times", many, [X, Y])], [X, Y] * many)
            self.check([Z, ("times", many, []), Z], [Z, Z])
        self.check([("times", 2, [("less", "c", 1, [X], [])])],
                   [("unless", "c", 1, 3), X, ("go", 3), ("unless", "c", 1, 6), X, ("go", 6)])
        self.check([("times", 3, [("times", 2, [X]), Y])], [X, X, Y] * 3)

    def test_catch(self):
        self.check([("catch", "w", ["d", "c"], [X, Y], [Z])],
                   [("catch", "w", ("d", "c"), 5), X, Y, LEAVE, ("go", 6), Z])
        self.check([("catch", "w", [], [], [])], [("catch", "w", (), 3), LEAVE, ("go", 3)])
        self.check([X, ("catch", "w", ["c"], [("fault", "w")], []), Y],
                   [X, ("catch", "w", ("c",), 5), ("fault", "w"), LEAVE, ("go", 5), Y])

    def test_last(self):
        self.check([("last", [X, Y], [Z])], [("last", 6), X, Y, LEAVE, Z, ("go", 8), Z, ("again",)])
        self.check([("last", [], [])], [("last", 3), LEAVE, ("go", 4), ("again",)])
        self.check([X, ("last", [], [Y, Z]), X], [X, ("last", 6), LEAVE, Y, Z, ("go", 9), Y, Z, ("again",), X])

    def test_either(self):
        self.check([("either", ["d", "c"], [X, Y], [Z])], [("open", ("d", "c"), 4), X, Y, ("go", 5), Z])
        self.check([("either", [], [], [])], [("open", (), 2), ("go", 2)])
        self.check([X, ("either", [], [BACK], [Y, Z]), X], [X, ("open", (), 4), BACK, ("go", 6), Y, Z, X])

    def test_whether(self):
        self.check([("whether", ["d", "c"], [X, X], [Y], [Z])],
                   [("mark",), ("open", ("d", "c"), 7), X, X, ("close",), Y, ("go", 9), LEAVE, Z])
        self.check([("whether", [], [], [], [])], [("mark",), ("open", (), 4), ("close",), ("go", 5), LEAVE])
        self.check([X, ("whether", [], [BACK], [], [Y])],
                   [X, ("mark",), ("open", (), 6), BACK, ("close",), ("go", 8), LEAVE, Y])

    def test_each(self):
        self.check([("each", ["c"], [X], [Y])],
                   [("open", ("c",), 10), X, ("mark",), ("open", (), 7), Y, ("close",), ("go", 8), LEAVE, BACK, ("go", 10)])
        for held, body, then in (([], [], []), (["d", "c"], [X, Y], [Z, Z]), (["c"], LONG, [])):
            either = ("either", held, [*body, ("whether", [], then, [], []), BACK], [])
            self.assertEqual(code(Part([X, ("each", held, body, then), Y])), code(Part([X, either, Y])))

    def test_steps_in_one_another(self):
        self.check([("catch", "w", [], [("last", [("less", "c", 1, [("fault", "w")], [])], [X])], [Y])],
                   [("catch", "w", (), 12), ("last", 8), ("unless", "c", 1, 5), ("fault", "w"), ("go", 5), LEAVE, X, ("go", 10), X,
                    ("again",), LEAVE, ("go", 13), Y])
        self.check([("either", [], [("either", ["c"], [X], [])], [("either", ["d"], [], [Y])])],
                   [("open", (), 5), ("open", ("c",), 4), X, ("go", 4), ("go", 8), ("open", ("d",), 7), ("go", 8), Y])

    def test_each_kind_of_step_in_each_kind(self):
        kinds = steps_of_each_kind()
        for outer in kinds.values():
            for inner in kinds.values():
                for many in (0, 1, 2):
                    lists = [[inner] * many + LONG for _ in lists_within(outer)]
                    steps = [Z, (*outer[:len(outer) - len(lists)], *lists), inner]
                    self.check(steps, code_again(steps)[:-1])

    def test_long_lists(self):
        for step in (("less", "c", 1, LONG, LONG), ("last", LONG, LONG), ("whether", ["c"], LONG, LONG, LONG),
                     ("catch", "w", ["c"], LONG, LONG), ("either", [], LONG, LONG), ("each", [], LONG, LONG)):
            self.check([step], code_again([step])[:-1])
        self.assertEqual(code(Part([("less", "c", 1, LONG, LONG)]))[0], ("unless", "c", 1, 14))

    def test_many_parts(self):
        for seed in range(1500):
            with self.subTest(seed=seed):
                steps = Maker(seed).part()
                self.assertEqual(code(Part(steps)), code_again(steps))

    def test_the_list_is_the_callers_own(self):
        part = Part(NESTED)
        found = code(part)
        self.assertEqual(found, code_again(NESTED))
        found.reverse()
        found.append(X)
        self.assertEqual(code(part=part), code_again(NESTED))
        self.assertEqual(part, Part(NESTED))


class TestRunning(unittest.TestCase):
    """A machine of the tests, run on the code, comes to the outcomes of the part."""

    def test_many_parts(self):
        counts = {"answer": 0, "none": 0, "fault": 0}
        for seed in range(1500):
            maker = Maker(seed)
            steps = maker.part() if seed % 2 else maker.lively_part()
            part = Part(steps)
            for trail in (False, True):
                with self.subTest(seed=seed, trail=trail):
                    cells = {cell: maker.number() for cell in CELLS}
                    runner, run = Runner(code(part), cells, trail), Run(part, cells)
                    for _ in range(8):
                        if run.ended is None:
                            end = run.answer()
                            self.assertEqual(runner.answer(), end)
                            self.assertEqual((runner.words, sorted(runner.worth.items())), (run.said(), run.cells()))
                            counts[end[0]] += 1
                            cell, n = maker.chance.choice(CELLS), maker.number()
                            run[cell] = n
                            runner.give(cell, n)
        for kind, many in counts.items():
            self.assertGreater(many, 200, kind)


if __name__ == "__main__":
    unittest.main()

"""[10], [3], [4]: runs, and parts that are called."""

import unittest

from heldback.errors import BadUse, HeldError, NoAnswer, NotName, NotNumber, Over, Uncaught
from heldback.parts import Part
from heldback.runs import Run
from samples import BAD_INTEGERS, BAD_NAMES, BIG, GOOD_INTEGERS, GOOD_NAMES, ends_of

ANSWER = ("answer",)
NONE = ("none",)
FAULT = ("fault", "w")

# Two answers; c is put back between them, d is not.
TWO = Part([("say", "a"), ("either", ["c"], [("add", "c", 1), ("add", "d", 1)], [("say", "b"), ("add", "d", 1)])])
FAILS = Part([("say", "a"), ("add", "c", 1), ("either", [], [], [("say", "b"), ("fault", "w")])])

BAD_CELLS = [
    True, False, 0, 1, "", "c", [], (), [("c", 1)], (("c", 1),), ["c"], {"c": None}, {"c": True}, {"c": False},
    {"c": "1"}, {"c": [1]}, {"c": {}}, {"C": 1}, {"": 1}, {"abcdefghi": 1}, {1: 1}, {None: 1}, {True: 1}, {("c",): 1},
    {"c": 1, "d": None}, {"c": 1, "D": 1}, {"a b": 1}, {0: "c"}, {(): ()}, [{"c": 1}], ({"c": 1},),
]


def seen(run):
    """All that a run tells, and what it tells up to its end; the run itself does not go on."""
    other = run.twin()
    now = (other.ended, other.said(), other.cells(), other["c"], other["far"])
    return now, ends_of(other), other.said(), other.cells(), other.ended


def at_each_time(part, cells=None):
    """Runs of the part: one that has not begun, one at each answer, one at its end."""
    runs = [Run(part, cells)]
    while runs[-1].ended is None:
        runs.append(runs[-1].twin())
        runs[-1].answer()
    return runs


class TestAnswers(unittest.TestCase):

    def test_answers_and_none(self):
        run = Run(TWO)
        self.assertIsNone(run.ended)
        self.assertEqual(run.said(), [])
        self.assertEqual(run.answer(), ANSWER)
        self.assertIsNone(run.ended)
        self.assertEqual(run.said(), ["a"])
        self.assertEqual(run.cells(), [("c", 1), ("d", 1)])
        self.assertEqual(run.answer(), ANSWER)
        self.assertIsNone(run.ended)
        self.assertEqual(run.said(), ["a", "b"])
        self.assertEqual(run.cells(), [("c", 0), ("d", 2)])
        self.assertEqual(run.answer(), NONE)
        self.assertEqual(run.ended, NONE)
        self.assertEqual(run.said(), ["a", "b"])
        self.assertEqual(run.cells(), [("c", 0), ("d", 2)])

    def test_a_fault(self):
        run = Run(FAILS)
        self.assertEqual(run.answer(), ANSWER)
        self.assertIsNone(run.ended)
        self.assertEqual(run.answer(), FAULT)
        self.assertEqual(run.ended, FAULT)
        self.assertEqual(run.said(), ["a", "b"])

    def test_kinds_of_values(self):
        for part in (TWO, FAILS):
            run = Run(part)
            while run.ended is None:
                end = run.answer()
                self.assertIs(type(end), tuple)
            self.assertIs(type(run.ended), tuple)
            self.assertIs(type(run.said()), list)
            self.assertIs(type(run.cells()), list)
            self.assertIs(type(run.cells()[0]), tuple)

    def test_over(self):
        for part in (TWO, FAILS, Part([]), Part([("back",)]), Part([("fault", "w")])):
            run = Run(part)
            ends_of(run)
            before = (run.ended, run.said(), run.cells())
            for _ in range(3):
                self.assertRaises(Over, run.answer)
                self.assertEqual((run.ended, run.said(), run.cells()), before)
            run["c"] = 3
            self.assertRaises(Over, run.answer)
            self.assertEqual(run["c"], 3)

    def test_nothing_is_done_before_the_beginning(self):
        run = Run(Part([("say", "a"), ("set", "c", 1), ("fault", "w")]))
        self.assertEqual((run.ended, run.said(), run.cells(), run["c"]), (None, [], [("c", 0)], 0))

    def test_ended_is_only_read(self):
        with self.assertRaises(AttributeError):
            Run(TWO).ended = None

    def test_runs_of_one_part(self):
        one, other = Run(TWO), Run(TWO)
        one.answer()
        self.assertEqual((other.said(), other.cells()), ([], [("c", 0), ("d", 0)]))
        self.assertEqual(ends_of(other), [ANSWER, ANSWER, NONE])
        self.assertEqual(ends_of(one), [ANSWER, NONE])


class TestCells(unittest.TestCase):

    def test_cells_at_first(self):
        for cells, told in [(None, [("c", 0), ("d", 0)]), ({}, [("c", 0), ("d", 0)]), ({"d": 5}, [("c", 0), ("d", 5)]),
                            ({"b": BIG, "e": -BIG}, [("b", BIG), ("c", 0), ("d", 0), ("e", -BIG)])]:
            self.assertEqual(Run(TWO, cells).cells(), told)
            self.assertEqual(Run(part=TWO, cells=cells).cells(), told)
        for name in GOOD_NAMES:
            for n in GOOD_INTEGERS:
                self.assertEqual(Run(Part([]), {name: n}).cells(), [(name, n)])

    def test_bad_cells(self):
        for cells in BAD_CELLS:
            with self.subTest(cells=cells):
                with self.assertRaises(BadUse) as held:
                    Run(TWO, cells)
                self.assertEqual(held.exception.index, 0)
                with self.assertRaises(BadUse) as held:
                    TWO(cells)
                self.assertEqual(held.exception.index, 0)

    def test_bad_names_and_numbers_in_cells(self):
        for name in BAD_NAMES:
            if not isinstance(name, (list, dict)) and name != (("a",),):
                self.assertRaises(BadUse, Run, TWO, {name: 1})
        for n in BAD_INTEGERS:
            self.assertRaises(BadUse, Run, TWO, {"c": n})

    def test_items(self):
        for run in at_each_time(TWO) + at_each_time(FAILS):
            for name in GOOD_NAMES:
                before = run.cells()
                self.assertEqual(run[name], 0)
                self.assertEqual(run.cells(), before)
                for n in GOOD_INTEGERS + [10 ** 60]:
                    run[name] = n
                    self.assertEqual(run[name], n)
                    self.assertEqual(run.cells(), sorted(set(before) | {(name, n)}))
                run[name] += 1
                self.assertEqual(run[name], 10 ** 60 + 1)
                run[name] = 0
                self.assertEqual(run.cells(), sorted(set(before) | {(name, 0)}))

    def test_not_name(self):
        for run in at_each_time(TWO, {"x": 4}) + at_each_time(FAILS):
            before = seen(run)
            for key in BAD_NAMES + [slice(1, 2), ("c", "d")]:
                with self.assertRaises(NotName) as held:
                    run[key]
                self.assertEqual(held.exception.key, key)
                for value in (1, True, None, [key]):
                    with self.assertRaises(NotName) as held:
                        run[key] = value
                    self.assertEqual(held.exception.key, key)
            self.assertEqual(seen(run), before)

    def test_not_number(self):
        for run in at_each_time(TWO, {"x": 4}) + at_each_time(FAILS):
            before = seen(run)
            for key in ("c", "x", "new"):
                for value in BAD_INTEGERS:
                    with self.assertRaises(NotNumber) as held:
                        run[key] = value
                    self.assertEqual(held.exception.value, value)
                    self.assertIs(type(held.exception.value), type(value))
            self.assertEqual(seen(run), before)

    def test_set_before_the_beginning(self):
        run = Run(TWO, {"c": 1})
        run["c"] = 10
        run["x"] = 7
        run.answer()
        self.assertEqual(run.cells(), [("c", 11), ("d", 1), ("x", 7)])
        run.answer()
        self.assertEqual(run.cells(), [("c", 10), ("d", 2), ("x", 7)])

    def test_set_between_answers(self):
        run = Run(TWO)
        run.answer()
        run["c"] = 50
        run["d"] = 60
        run["x"] = 70
        self.assertEqual(run.cells(), [("c", 50), ("d", 60), ("x", 70)])
        run.answer()
        self.assertEqual(run.cells(), [("c", 0), ("d", 61), ("x", 70)])

    def test_set_between_answers_steers_the_run(self):
        part = Part([("either", [], [], [("less", "c", 1, [("say", "less")], [("say", "more")])])])
        for n, word in [(0, "less"), (1, "more")]:
            run = Run(part, {"c": 1 - n})
            run.answer()
            run["c"] = n
            run.answer()
            self.assertEqual(run.said(), [word])

    def test_set_behind_the_end(self):
        for part in (TWO, FAILS):
            run = Run(part)
            ends = ends_of(run)
            run["c"] = 9
            run["x"] = 8
            self.assertEqual((run["c"], run["x"], run.ended), (9, 8, ends[-1]))
            self.assertIn(("c", 9), run.cells())
            self.assertIn(("x", 8), run.cells())

    def test_cells_that_the_part_does_not_name_stay(self):
        run = Run(TWO, {"x": 1})
        run["y"] = 2
        ends_of(run)
        self.assertEqual((run["x"], run["y"], run["z"]), (1, 2, 0))
        self.assertEqual(run.cells(), [("c", 0), ("d", 2), ("x", 1), ("y", 2)])

    def test_a_name_only_in_held_is_a_cell_of_the_part(self):
        part = Part([("either", ["h"], [], []), ("say", "w"), ("times", 0, [("copy", "i", "k", 0)])])
        self.assertEqual(Run(part).cells(), [("h", 0), ("i", 0), ("k", 0)])

    def test_held_cells_that_were_set_between_answers(self):
        part = Part([("either", [], [], [("either", ["c"], [("add", "c", 1)], [])])])
        run = Run(part)
        run.answer()
        run["c"] = 40
        run.answer()
        self.assertEqual(run["c"], 41)
        run.answer()
        self.assertEqual(run["c"], 40)

    def test_arguments_and_results_are_copies(self):
        cells = {"c": 3}
        run = Run(TWO, cells)
        cells["c"] = 4
        cells["x"] = 5
        self.assertEqual(run.cells(), [("c", 3), ("d", 0)])
        run.answer()
        run["c"] = 9
        self.assertEqual(cells, {"c": 4, "x": 5})
        run.said().append("x")
        run.cells().append(("x", 1))
        run.cells().clear()
        self.assertEqual((run.said(), run.cells()), (["a"], [("c", 9), ("d", 1)]))
        self.assertIsNot(run.said(), run.said())
        self.assertIsNot(run.cells(), run.cells())

    def test_it_is_not_iterated_over(self):
        with self.assertRaises(TypeError):
            list(Run(TWO))


class TestTwin(unittest.TestCase):

    def test_as_it_is(self):
        for part in (TWO, FAILS, Part([])):
            for run in at_each_time(part, {"x": 1}):
                twin = run.twin()
                self.assertIsInstance(twin, Run)
                self.assertIsNot(twin, run)
                self.assertEqual((twin.ended, twin.said(), twin.cells()), (run.ended, run.said(), run.cells()))
                self.assertEqual(ends_of(twin), ends_of(run))
                self.assertEqual((twin.ended, twin.said(), twin.cells()), (run.ended, run.said(), run.cells()))

    def test_neither_changes_the_other(self):
        for part in (TWO, FAILS, Part([])):
            for run in at_each_time(part):
                before = seen(run)
                twin = run.twin()
                twin["c"] = 77
                twin["far"] = 5
                ends_of(twin)
                twin["c"] = 78
                self.assertEqual(seen(run), before)
                twin = run.twin()
                run["c"] = 77
                run["far"] = 5
                ends_of(run)
                self.assertEqual(seen(twin), before)

    def test_over(self):
        run = Run(TWO)
        ends_of(run)
        self.assertRaises(Over, run.twin().answer)

    def test_choices_of_both(self):
        run = Run(Part([("either", [], [], [("say", "a")])] * 3))
        run.answer()
        twins = [run.twin() for _ in range(3)]
        tales = [(ends_of(twin), twin.said()) for twin in twins + [run]]
        self.assertEqual(tales, [tales[0]] * 4)
        self.assertEqual(len(tales[0][0]), 8)


class Broken(Exception):
    pass


class TestTrial(unittest.TestCase):

    def test_the_function_gets_the_run(self):
        run = Run(TWO)
        self.assertIs(run.trial(lambda other: other), run)

    def test_what_it_returns(self):
        run = Run(TWO)
        for thing in (None, True, 5, "a", [1], ("answer",), {"c": 1}):
            self.assertIs(run.trial(lambda other: thing), thing)
            self.assertIs(run.trial(work=lambda other: thing), thing)
        self.assertEqual(run.trial(lambda other: other.answer()), ANSWER)
        self.assertEqual(run.trial(ends_of), [ANSWER, ANSWER, NONE])

    def test_it_is_as_before(self):
        def work(run):
            run["c"] = 9
            run["far"] = 8
            ends = ends_of(run)
            run["d"] = 7
            return (ends, run.said(), run.cells(), run.ended)

        for part in (TWO, FAILS, Part([])):
            for run in at_each_time(part, {"x": 1}):
                before = seen(run)
                twin = run.twin()
                self.assertEqual(run.trial(work), work(twin))
                self.assertEqual(seen(run), before)
                self.assertEqual(run.trial(work), run.trial(work))
                self.assertEqual(seen(run), before)

    def test_nothing_is_hidden_within(self):
        for run in at_each_time(TWO):
            before = seen(run)
            self.assertEqual(run.trial(seen), before)
            self.assertEqual(run.trial(lambda other: seen(run)), before)

    def test_left_by_an_error(self):
        for error in (Broken, ValueError, Over, KeyError, StopIteration, KeyboardInterrupt):
            def work(run):
                run["c"] = 9
                run["far"] = 8
                ends_of(run)
                raise error()

            for part in (TWO, FAILS):
                for run in at_each_time(part):
                    before = seen(run)
                    self.assertRaises(error, run.trial, work)
                    self.assertEqual(seen(run), before)

    def test_left_by_errors_of_the_run(self):
        def bad_item(run):
            run["x"] = 1
            run["X"] = 1

        def over(run):
            ends_of(run)
            run.answer()

        for run in at_each_time(TWO):
            before = seen(run)
            self.assertRaises(NotName, run.trial, bad_item)
            self.assertEqual(seen(run), before)
            self.assertRaises(Over, run.trial, over)
            self.assertEqual(seen(run), before)

    def test_the_same_error_leaves(self):
        error = Broken("x")

        def work(run):
            raise error

        with self.assertRaises(Broken) as held:
            Run(TWO).trial(work)
        self.assertIs(held.exception, error)

    def test_within_each_other(self):
        def inner(run):
            run["c"] = 5
            ends_of(run)
            return run.said()

        def broken(run):
            run["d"] = 6
            raise Broken()

        def outer(run):
            run["c"] = 3
            middle = seen(run)
            said = run.trial(inner)
            self.assertEqual(seen(run), middle)
            self.assertRaises(Broken, run.trial, broken)
            self.assertEqual(seen(run), middle)
            if run.ended is None:
                run.answer()
            later = seen(run)
            run.trial(inner)
            self.assertEqual(seen(run), later)
            return said

        for part in (TWO, FAILS):
            for run in at_each_time(part):
                before = seen(run)
                run.trial(outer)
                self.assertEqual(seen(run), before)
                self.assertEqual(run.trial(lambda other: other.trial(inner)), run.trial(inner))

    def test_twins_within(self):
        def work(run):
            run["c"] = 30
            run.answer()
            return run.twin()

        run = Run(TWO)
        before = seen(run)
        twin = run.trial(work)
        self.assertEqual(seen(run), before)
        self.assertEqual((twin.said(), twin["c"]), (["a"], 31))
        self.assertEqual(ends_of(twin), [ANSWER, NONE])
        self.assertEqual(seen(run), before)

    def test_the_run_goes_on_behind_it(self):
        run = Run(TWO)
        run.trial(ends_of)
        self.assertEqual(run.answer(), ANSWER)
        run.trial(ends_of)
        self.assertEqual(run.answer(), ANSWER)
        run.trial(ends_of)
        self.assertEqual(run.answer(), NONE)
        self.assertEqual(run.said(), ["a", "b"])


class TestCalls(unittest.TestCase):

    def test_the_first_answer(self):
        self.assertEqual(TWO(), {"c": 1, "d": 1})
        self.assertEqual(TWO(None), {"c": 1, "d": 1})
        self.assertEqual(TWO({}), {"c": 1, "d": 1})
        self.assertEqual(TWO({"c": 4, "x": 5}), {"c": 5, "d": 1, "x": 5})
        self.assertEqual(TWO(cells={"d": BIG}), {"c": 1, "d": BIG + 1})
        self.assertEqual(Part([])(), {})
        self.assertEqual(Part([])({"x": 0}), {"x": 0})
        self.assertIs(type(TWO()), dict)
        part = Part([("either", ["c"], [("set", "c", 1), ("set", "d", 1), ("back",)], []), ("add", "c", 1)])
        self.assertEqual(part(), {"c": 1, "d": 1})

    def test_all_cells_of_the_part(self):
        part = Part([("catch", "w", ["h"], [], [("copy", "i", "k", 1)]), ("say", "w")])
        self.assertEqual(list(part({"b": 1}).items()), [("b", 1), ("h", 0), ("i", 0), ("k", 0)])

    def test_uncaught(self):
        for part in (Part([("fault", "w")]), Part([("catch", "v", [], [("fault", "w")], [])]),
                     Part([("either", [], [("back",)], [("fault", "w")])])):
            with self.assertRaises(Uncaught) as held:
                part()
            self.assertEqual(held.exception.word, "w")
        self.assertEqual(FAILS(), {"c": 1})

    def test_no_answer(self):
        for part in (Part([("back",)]), Part([("either", [], [("back",)], [("say", "a"), ("back",)])])):
            self.assertRaises(NoAnswer, part)
            self.assertRaises(NoAnswer, part, {"c": 1})

    def test_bad_use_comes_first(self):
        for part in (Part([("back",)]), Part([("fault", "w")]), Part([])):
            for cells in BAD_CELLS:
                with self.assertRaises(BadUse) as held:
                    part(cells)
                self.assertEqual(held.exception.index, 0)

    def test_called_again(self):
        counts = Part([("less", "c", 2, [("add", "c", 1)], [("fault", "w")])])
        for _ in range(3):
            self.assertEqual(counts(), {"c": 1})
            self.assertEqual(counts({"c": 1}), {"c": 2})
            self.assertRaises(Uncaught, counts, {"c": 2})
            self.assertRaises(HeldError, counts, {"c": True})
        cells = {"c": 1}
        told = counts(cells)
        self.assertEqual(cells, {"c": 1})
        told["c"] = 100
        cells["c"] = -5
        self.assertEqual(counts(), {"c": 1})
        self.assertEqual(counts(cells), {"c": -4})


if __name__ == "__main__":
    unittest.main()

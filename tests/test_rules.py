"""[27], [28]: the rules, row by row, what fits, and short parts."""

import itertools
import unittest

from heldback.errors import NoFit, NoPath, NoRule
from heldback.frames import filled
from heldback.likeness import alike
from heldback.parts import Part
from heldback.rules import fitting, rewritten, short
from heldback.runs import Run
from maker import CELLS, Maker, is_small
from rewriting import NAMES, RULES, at_path, fitting_again, short_again
from samples import ANYTHING, BIG, NESTED, all_paths, listed, steps_of_each_kind, tupled

X, Y, Z = ("say", "x"), ("say", "y"), ("say", "z")
BACK, HOLE, W, V = ("back",), ("hole",), ("fault", "w"), ("fault", "v")
NEVER = [("last", [X, BACK], [Z]), HOLE]


def deep(steps, before=()):
    """The steps in each list of each kind of step, with the path of the first of the last ones."""
    steps, before, at = list(steps), list(before), len(before)
    rows = before + steps
    shapes = [
        ("less", "q", 1, rows, [Z]), ("less", "q", 1, [Z], rows), ("below", "q", "r", 1, rows, [Z]), ("below", "q", "r", 1, [Z], rows),
        ("times", 2, rows), ("catch", "u", ["q"], rows, [Z]), ("catch", "u", ["q"], [Z], rows), ("last", rows, [Z]),
        ("last", [Z], rows), ("either", ["q"], rows, [Z]), ("either", ["q"], [Z], rows), ("whether", ["q"], rows, [Z], [Z]),
        ("whether", ["q"], [Z], rows, [Z]), ("whether", ["q"], [Z], [Z], rows), ("each", ["q"], rows, [Z]), ("each", ["q"], [Z], rows),
    ]
    yield rows, (at,), lambda made: before + made
    for shape in shapes:
        lists = [item for item in shape if isinstance(item, list) and item != ["q"]]
        number = [item is rows for item in lists].index(True)

        def around(made, shape=shape):
            return [HOLE, tuple(before + made if item is rows else item for item in shape), Y]

        yield around(steps), (1, number, at), around


class RuleTest(unittest.TestCase):

    def fits(self, rule, steps, made, most=True):
        """The rule makes this of the first of the steps, at the outermost level and deep, whatever stands ahead."""
        for before in ([], [("say", "before")]):
            for rows, path, around in deep(steps, before):
                part, expected = Part(rows), Part(around(list(made)))
                self.assertEqual(rewritten(part, rule, path), expected, rows)
                self.assertEqual(rewritten(Part(listed(rows)), rule, list(path)), expected)
                self.assertIn((path, rule), fitting(part))
                self.assertEqual(part, Part(rows))
                if most and is_small(expected.steps()) and is_small(part.steps()):
                    self.assertTrue(alike(part, expected), rows)

    def fits_not(self, rule, steps):
        for before in ([], [("say", "before")]):
            for rows, path, _ in deep(steps, before):
                part = Part(rows)
                for given in (path, list(path)):
                    with self.assertRaises(NoFit) as held:
                        rewritten(part, rule, given)
                    self.assertEqual((held.exception.rule, held.exception.path), (rule, path))
                    self.assertIs(type(held.exception.path), tuple)
                self.assertNotIn((path, rule), fitting(part))

    def test_the_form_of_deep(self):
        rows = list(deep([X], [Y]))
        self.assertEqual(len(rows), 17)
        for steps, path, _ in rows:
            self.assertEqual(Part(steps)[path], X)


class TestBare(RuleTest):

    def test_last(self):
        self.fits("bare", [("last", [X, Y], [])], [X, Y])
        self.fits("bare", [("last", [], []), Z], [Z])
        self.fits("bare", [("last", [W, HOLE], []), Z], [W, HOLE, Z])
        self.fits_not("bare", [("last", [X], [Y])])
        self.fits_not("bare", [("last", [], [HOLE])])

    def test_catch(self):
        for then in ([], [W], NEVER):
            self.fits("bare", [("catch", "w", ["d", "c"], [X, Y], then)], [X, Y])
            self.fits("bare", [("catch", "w", [], [], then), Z], [Z])
        self.fits("bare", [("catch", "w", ["c"], [V, ("say", "w"), ("last", [V], [BACK])], [W]), Z],
                  [V, ("say", "w"), ("last", [V], [BACK]), Z])
        self.fits("bare", [("catch", "w", [], [("catch", "w", [], [X], [Y])], [Z])], [("catch", "w", [], [X], [Y])])

    def test_a_hole_or_the_fault_at_any_depth(self):
        for inner in (HOLE, W):
            self.fits_not("bare", [("catch", "w", [], [inner], [])])
            self.fits_not("bare", [("catch", "w", [], [X, BACK, inner, X], [Y])])
            for rows, _, _ in deep([inner], [X]):
                self.fits_not("bare", [("catch", "w", ["c"], rows, [])])
            # Even where it is never done, or caught within.
            self.fits_not("bare", [("catch", "w", [], [("times", 0, [inner])], [])])
            self.fits_not("bare", [("catch", "w", [], [("catch", "w", [], [inner], [])], [])])
        self.fits("bare", [("catch", "w", [], [X], [HOLE, W])], [X])
        # Names that are like the words of these steps.
        rows = [("say", "hole"), ("set", "hole", 1), ("fault", "hole"), ("catch", "hole", ["w", "hole"], [("say", "fault")], [])]
        self.fits("bare", [("catch", "w", ["hole"], rows, []), Z], [*rows, Z])

    def test_other_steps(self):
        for step in steps_of_each_kind().values():
            if step[0] not in ("last", "catch"):
                self.fits_not("bare", [step])


class TestBreaks(RuleTest):

    def test_each_row(self):
        for more in ([], [X], NEVER):
            self.fits("breaks", [("either", ["c"], [W, *more], [X, Y])], [W])
            self.fits("breaks", [("either", [], [W, *more], []), Z], [W, Z])
            self.fits("breaks", [("whether", ["c"], [W, *more], [X], [Y]), Z], [W, Z])
            self.fits("breaks", [("catch", "v", ["c"], [W, *more], [X]), Z], [W, Z])
            self.fits("breaks", [("catch", "w", ["c"], [W, *more], [X, Y]), Z], [X, Y, Z])
            self.fits("breaks", [("catch", "w", ["c"], [W, *more], []), Z], [Z])
            self.fits("breaks", [("last", [W, *more], [X, Y]), Z], [X, Y, W, Z])
            self.fits("breaks", [("last", [W, *more], [])], [W])
            self.fits("breaks", [("last", [W, *more], [V])], [V, W])

    def test_what_does_not_fit(self):
        for body in ([], [X, W], [HOLE, W], [BACK], [("last", [W], [])], [("say", "fault")]):
            for step in (("either", [], body, [W]), ("whether", [], body, [W], [W]), ("catch", "w", [], body, [W]),
                         ("catch", "v", [], body, [W]), ("last", body, [W])):
                self.fits_not("breaks", [step])
        for step in (("each", [], [W], [W]), ("times", 1, [W]), ("less", "c", 1, [W], [W]), ("below", "c", "d", 1, [W], [W]), W, HOLE):
            self.fits_not("breaks", [step, W])


class TestCut(RuleTest):

    def test_fault_and_back(self):
        for step in (W, V, BACK):
            self.fits("cut", [step, X], [step])
            self.fits("cut", [step, *NEVER, step], [step])
            self.fits("cut", [step, step], [step])
            self.fits_not("cut", [step])

    def test_other_steps(self):
        for step in steps_of_each_kind().values():
            if step[0] not in ("fault", "back"):
                self.fits_not("cut", [step, X])
        self.fits_not("cut", [X, BACK, X])


class TestEmpty(RuleTest):

    def test_nothing_is_left(self):
        for step in (("add", "c", 0), ("copy", "c", "c", 0), ("catch", "w", ["c"], [], [X, W]), ("catch", "w", [], [], []),
                     ("each", ["c"], [], []), ("each", [], [], [])):
            self.fits("empty", [step], [])
            self.fits("empty", [step, X, Y], [X, Y])

    def test_one_list_is_left(self):
        for rows in ([], [X], [BACK, Y], [W], [HOLE, X]):
            self.fits("empty", [("last", [], rows), Z], [*rows, Z])
            for other in ([], NEVER):
                self.fits("empty", [("whether", ["c"], [], rows, other), Z], [*rows, Z])

    def test_what_does_not_fit(self):
        for step in (("add", "c", 1), ("add", "c", -1), ("set", "c", 0), ("copy", "c", "d", 0), ("copy", "c", "c", 1),
                     ("catch", "w", [], [X], []), ("each", [], [X], []), ("each", [], [], [X]), ("last", [X], []),
                     ("whether", [], [HOLE], [], []), ("either", [], [], []), ("times", 0, []), ("times", 2, []),
                     ("less", "c", 0, [], []), ("below", "c", "c", 0, [], []), HOLE, X, BACK, W):
            self.fits_not("empty", [step])
            self.fits_not("empty", [step, X])


class TestFails(RuleTest):

    def test_each_row(self):
        for more in ([], [X], NEVER):
            for rows in ([], [X, Y], [BACK], [HOLE]):
                self.fits("fails", [("either", ["c"], [BACK, *more], rows), Z], [*rows, Z])
                for then in ([], [X], [BACK]):
                    self.fits("fails", [("whether", ["c"], [BACK, *more], then, rows), Z], [*rows, Z])

    def test_what_does_not_fit(self):
        for body in ([], [X, BACK], [HOLE], [W], [("last", [BACK], [])], [("say", "back")]):
            self.fits_not("fails", [("either", [], body, [BACK])])
            self.fits_not("fails", [("whether", [], body, [BACK], [BACK])])
        for step in (("each", [], [BACK], []), ("last", [BACK], []), ("catch", "w", [], [BACK], []), ("times", 1, [BACK]),
                     ("less", "c", 1, [BACK], []), BACK):
            self.fits_not("fails", [step, BACK])


class TestJoin(RuleTest):

    FIRST = [("set", "c", 4), ("add", "c", 4), ("copy", "c", "d", 4), ("copy", "c", "c", 4), ("copy", "c", "e", -4)]

    def test_a_set_or_a_copy_behind(self):
        for first in self.FIRST:
            for second in (("set", "c", 7), ("set", "c", -BIG), ("copy", "c", "d", 0), ("copy", "c", "e", 3)):
                self.fits("join", [first, second], [second])
                self.fits("join", [first, second, X, ("add", "c", 1)], [second, X, ("add", "c", 1)])

    def test_an_add_behind(self):
        for first in self.FIRST:
            for n in (0, 1, -9, BIG):
                made = (*first[:-1], first[-1] + n)
                self.fits("join", [first, ("add", "c", n)], [made])
                self.fits("join", [first, ("add", "c", n), ("add", "c", 1)], [made, ("add", "c", 1)])

    def test_what_does_not_fit(self):
        for first in self.FIRST:
            for behind in ([], [("set", "d", 1)], [("add", "d", 1)], [("copy", "d", "c", 1)], [("copy", "c", "c", 0)],
                           [("copy", "c", "c", 2)], [("less", "c", 1, [], [])], [("below", "c", "d", 1, [], [])],
                           [HOLE, ("set", "c", 1)], [X, ("add", "c", 1)], [("say", "c")], [("fault", "c")], [BACK],
                           [("times", 1, [("set", "c", 1)])], [("catch", "c", ["c"], [], [])], [("either", ["c"], [], [])]):
                self.fits_not("join", [first, *behind])
        for first in (("less", "c", 1, [], []), ("below", "c", "d", 1, [], []), ("say", "c"), ("fault", "c"), ("catch", "c", [], [], []),
                      HOLE, BACK):
            self.fits_not("join", [first, ("set", "c", 1)])
            self.fits_not("join", [first, ("add", "c", 1)])


class TestKnown(RuleTest):

    def test_each_side(self):
        for n, m in itertools.product((-1, 0, 3, BIG), repeat=2):
            for behind in ([], [X, Y]):
                step = ("set", "c", n)
                self.fits("known", [step, ("less", "c", m, [X, W], [Y]), *behind], [step, *([X, W] if n < m else [Y]), *behind])
                self.fits("known", [step, ("less", "c", m, [], []), *behind], [step, *behind])

    def test_what_does_not_fit(self):
        test = ("less", "c", 1, [X], [Y])
        for first in (("add", "c", 1), ("copy", "c", "d", 1), ("copy", "c", "c", 1), ("set", "d", 1), HOLE, ("say", "c"), test):
            self.fits_not("known", [first, test])
        for behind in ([], [("less", "d", 1, [X], [Y])], [("below", "c", "d", 1, [X], [Y])], [HOLE, test], [("set", "c", 1), test],
                       [("times", 1, [test])], [("say", "c")]):
            self.fits_not("known", [("set", "c", 1), *behind])


class TestOnly(RuleTest):

    def test_it_fits(self):
        for more in ([], [X], NEVER):
            for rows in ([], [X, Y], [BACK], [HOLE, W]):
                self.fits("only", [("either", [], rows, [BACK, *more])], rows)
                self.fits("only", [("either", [], rows, [BACK, *more]), Z], [*rows, Z])

    def test_what_does_not_fit(self):
        self.fits_not("only", [("either", ["c"], [X], [BACK])])
        for other in ([], [X, BACK], [HOLE], [W], [("say", "back")]):
            self.fits_not("only", [("either", [], [BACK], other)])
        self.fits_not("only", [("whether", [], [X], [BACK], [BACK])])
        self.fits_not("only", [("each", [], [X], [BACK])])
        self.fits_not("only", [("last", [X], [BACK])])


class TestSame(RuleTest):

    def test_it_fits(self):
        nested = [("less", "d", 1, [("either", ["c"], [X], [HOLE])], [("last", [W], [Y])]), ("copy", "c", "d", BIG)]
        for rows in ([], [X], [X, Y], [BACK, Z], [HOLE], nested):
            self.fits("same", [("less", "c", 3, rows, list(rows))], rows)
            self.fits("same", [("below", "c", "d", 3, rows, list(rows)), Z], [*rows, Z])
            self.fits("same", [("below", "c", "c", 3, rows, listed(rows)), Z], [*rows, Z])

    def test_what_does_not_fit(self):
        one = [("less", "d", 1, [("either", ["c"], [X], [HOLE])], [])]
        for other in ([("less", "d", 1, [("either", ["c"], [Y], [HOLE])], [])], [("less", "d", 1, [("either", [], [X], [HOLE])], [])],
                      [("less", "d", 2, [("either", ["c"], [X], [HOLE])], [])], [*one, X], [], one * 2):
            self.fits_not("same", [("less", "c", 1, one, other)])
            self.fits_not("same", [("below", "c", "d", 1, other, one)])
        self.fits_not("same", [("less", "c", 1, [X, Y], [Y, X])])
        for step in (("either", [], [X], [X]), ("last", [X], [X]), ("catch", "w", [], [X], [X]), ("each", [], [X], [X]),
                     ("whether", [], [X], [X], [X]), ("last", [], []), ("either", [], [], [])):
            self.fits_not("same", [step])


class TestSpread(RuleTest):

    def test_it_takes_in_all_steps_behind(self):
        for behind in ([Z], [Z, X, W], [HOLE], [("last", [X], [HOLE]), BACK]):
            for head in (("either", ["d", "c"]), ("either", []), ("less", "c", 3), ("below", "c", "d", 3)):
                for one, other in (([X], [Y]), ([], []), ([X, BACK], [HOLE, W]), ([], [X])):
                    self.fits("spread", [(*head, one, other), *behind], [(*head, [*one, *behind], [*other, *behind])])

    def test_what_does_not_fit(self):
        for head in (("either", ["c"]), ("less", "c", 3), ("below", "c", "d", 3)):
            self.fits_not("spread", [(*head, [X], [Y])])
        for step in steps_of_each_kind().values():
            if step[0] not in ("either", "less", "below"):
                self.fits_not("spread", [step, X])


class TestTail(RuleTest):

    def test_equal_last_steps(self):
        nested = ("less", "d", 1, [("either", ["c"], [X], [HOLE])], [("last", [W], [Y])])
        for last in (X, W, BACK, HOLE, nested):
            for head in (("either", ["d", "c"]), ("less", "c", 3), ("below", "c", "d", 3)):
                for one, other in (([], []), ([X], [Y]), ([X, Y], []), ([last], [])):
                    for behind in ([], [Z]):
                        self.fits("tail", [(*head, [*one, last], [*other, last]), *behind], [(*head, one, other), last, *behind])

    def test_what_does_not_fit(self):
        for head in (("either", ["c"]), ("less", "c", 3), ("below", "c", "d", 3)):
            for one, other in (([], []), ([X], []), ([], [X]), ([X], [Y]), ([X, Y], [Y, X]), ([X, Y], [X]), ([HOLE, X], [X, HOLE]),
                               ([("add", "c", 1)], [("add", "c", 2)]), ([("last", [X], [])], [("last", [Y], [])])):
                self.fits_not("tail", [(*head, one, other)])
        for step in (("last", [X], [X]), ("catch", "w", [], [X], [X]), ("each", [], [X], [X]), ("whether", [], [X], [X], [X])):
            self.fits_not("tail", [step])


class TestTurn(RuleTest):

    def test_it_fits(self):
        for held in ([], ["c"], ["d", "c"]):
            for one, other, third in itertools.product(([], [X], [BACK, HOLE]), ([], [Y]), ([], [Z, W])):
                self.fits("turn", [("either", held, [("either", held, one, other)], third)],
                          [("either", held, one, [("either", held, other, third)])])
                self.fits("turn", [("either", held, [("either", held, one, other)], third), X],
                          [("either", held, one, [("either", held, other, third)]), X])

    def test_what_does_not_fit(self):
        for held, other in (([], ["c"]), (["c"], []), (["c", "d"], ["d", "c"]), (["c"], ["d"]), (["c"], ["c", "d"])):
            self.fits_not("turn", [("either", held, [("either", other, [X], [Y])], [Z])])
        inner = ("either", ["c"], [X], [Y])
        for body in ([], [X], [inner, X], [X, inner], [inner, inner], [("each", ["c"], [X], [Y])], [("whether", ["c"], [X], [Y], [])],
                     [("last", [inner], [])]):
            self.fits_not("turn", [("either", ["c"], body, [inner])])
        self.fits_not("turn", [("whether", ["c"], [inner], [], [])])
        self.fits_not("turn", [("each", ["c"], [inner], [])])


class TestUnroll(RuleTest):

    def test_it_fits(self):
        for many in range(4):
            for rows in ([], [X], [X, ("either", ["c"], [BACK], [HOLE])]):
                self.fits("unroll", [("times", many, rows)], rows * many)
                self.fits("unroll", [("times", many, rows), Z], [*rows * many, Z])

    def test_other_steps(self):
        for step in steps_of_each_kind().values():
            if step[0] != "times":
                self.fits_not("unroll", [step])


class TestRewritten(unittest.TestCase):

    def test_every_rule_on_every_kind_of_step(self):
        kinds = tupled(list(steps_of_each_kind().values()))
        for step, behind in itertools.product(kinds, [(), *[(other,) for other in kinds]]):
            steps = (step, *behind)
            for rule in NAMES:
                expected = at_path(steps, (0,), RULES[rule])
                if expected is None:
                    with self.assertRaises(NoFit):
                        rewritten(Part(steps), rule, (0,))
                else:
                    self.assertEqual(rewritten(Part(steps), rule, (0,)).steps(), expected)

    def test_what_is_no_rule(self):
        for rule in [*ANYTHING, 0, 1, "Bare", "bare ", "say", "last", "either", "back", "unrolled", {}, ["bare"], ("cut",), "x" * 4000,
                     {"cut": 1}, "barebreaks", NAMES]:
            for path in ((0,), (9,), None, "0"):
                with self.assertRaises(NoRule) as held:
                    rewritten(Part(NESTED), rule, path)
                self.assertEqual(held.exception.rule, rule)

    def test_what_is_no_path(self):
        for path in [*[thing for thing in ANYTHING if thing != [1]], 0, 1, "0", (5,), (-1,), (0, 0), (0, 0, 0), (2, 2, 0), (2, 0, 2), (2, 0, -1), (True,), (2, False, 0), {},
                     (None,), ("0",), ((0,),), [[0]], (BIG,), (2, BIG, 0), {0: 0}, (2, 0, 1, 0)]:
            for rule in NAMES:
                with self.assertRaises(NoPath) as held:
                    rewritten(Part(NESTED), rule, path)
                self.assertEqual(held.exception.path, path)

    def test_no_fit_comes_last(self):
        with self.assertRaises(NoFit) as held:
            rewritten(Part([X]), "cut", [0])
        self.assertEqual((held.exception.rule, held.exception.path), ("cut", (0,)))

    def test_the_part_stays(self):
        part = Part([W, X])
        for given in ({"part": part, "rule": "cut", "path": [0]}, {"path": (0,), "rule": "cut", "part": part}):
            self.assertEqual(rewritten(**given), Part([W]))
        self.assertEqual(part, Part([W, X]))


class TestFitting(unittest.TestCase):

    def check(self, steps, expected):
        part = Part(steps)
        found = fitting(part)
        self.assertEqual(found, expected)
        self.assertIs(type(found), list)
        for pair in found:
            self.assertEqual((type(pair), type(pair[0]), type(pair[1])), (tuple, tuple, str))
        self.assertEqual(part, Part(steps))
        self.assertEqual(fitting(part=part), found)

    def test_all_pairs_ascending(self):
        self.check([], [])
        self.check([X, HOLE], [])
        self.check([("last", [], [])], [((0,), "bare"), ((0,), "empty")])
        self.check([("either", [], [W], [BACK, W]), W],
                   [((0,), "breaks"), ((0,), "only"), ((0,), "spread"), ((0,), "tail"), ((0, 1, 0), "cut")])
        self.check([("less", "c", 1, [X], [X]), X], [((0,), "same"), ((0,), "spread"), ((0,), "tail")])
        self.check([("set", "c", 1), ("add", "c", 0), ("less", "c", 1, [("times", 2, [W, W])], [])],
                   [((0,), "join"), ((1,), "empty"), ((2, 0, 0), "unroll"), ((2, 0, 0, 0, 0), "cut")])

    def test_paths_beyond_ten(self):
        rows = [HOLE, ("add", "c", 0)] * 8
        expected = [(at, "empty") for at in range(1, 16, 2)]
        self.check(rows, [((at,), rule) for at, rule in expected])
        self.check([("times", 1, rows), BACK, BACK],
                   [((0,), "unroll"), *[((0, 0, at), rule) for at, rule in expected], ((1,), "cut")])

    def test_many_parts(self):
        found = {}
        for seed in range(550):
            with self.subTest(seed=seed):
                maker = Maker(seed)
                steps = simple_part(maker)
                part, pairs = Part(steps), fitting_again(steps)
                self.assertEqual(fitting(part), pairs)
                for path, rule in pairs:
                    found[rule] = found.get(rule, 0) + 1
                    self.assertEqual(rewritten(part, rule, path).steps(), at_path(steps, path, RULES[rule]))
                others = [(path, rule) for path, _ in all_paths(steps) for rule in NAMES if (path, rule) not in pairs]
                for path, rule in maker.chance.sample(others, 8):
                    with self.assertRaises(NoFit):
                        rewritten(part, rule, path)
        self.assertEqual(sorted(found), NAMES)
        self.assertGreater(min(found.values()), 50, found)


def simple_part(maker):
    """A part of at most 40 steps to which many rules can be applied."""
    while True:
        maker.room = 4
        steps = tupled([maker.step(0), *maker.steps(0)])
        for _ in range(maker.chance.choice((2, 4, 6))):
            path, step = maker.chance.choice(all_paths(steps))
            rows = simple_steps(maker, step)
            steps = at_path(steps, path, lambda rest: [*rows, *rest[maker.chance.choice((0, 1)):]])
        if len(all_paths(steps)) <= 40:
            return steps


def simple_steps(maker, step):
    """Steps that fit some rule, perhaps with this step in them."""
    chance = maker.chance
    return chance.choice([
        [W], [BACK], [("add", "a", 0)], [("copy", "b", "b", 0)], [("set", "a", 1)], [("add", "a", 2)], [("copy", "a", "b", 1)],
        [("set", "a", 1), ("less", "a", chance.choice((1, 2)), (step,), (Y,))], [("less", "a", 1, (step,), (step,))],
        [("last", (step,), ())], [("catch", "u", (), (step,), (X,))], [("last", (), (step,))], [("either", (), (step,), (BACK, X))],
        [("either", ("a",), (BACK,), (step,))], [("each", ("a",), (), ())],
        [("either", ("a",), (("either", ("a",), (step,), (X,)),), (Y,))], [("either", (), (("fault", "u"), X), (step,))],
        [("below", "a", "b", 1, (X, step), (Y, step))], [("times", chance.choice((0, 1)), (step,))],
        [("whether", (), (), (step,), (Y,))], [("whether", ("b",), (BACK,), (Y,), (step,))], [("whether", (), (W, step), (X,), (Y,))],
        [("catch", "w", ("a",), (W, X), (step,))], [("last", (W,), (step,))],
    ])


class TestShort(unittest.TestCase):

    def check(self, steps, expected):
        part = Part(steps)
        found = short(part)
        self.assertEqual(found, Part(expected))
        self.assertIs(type(found), Part)
        self.assertEqual(part, Part(steps))
        self.assertEqual(short(found), found)
        self.assertEqual(found.steps(), short_again(tupled(steps)))

    def test_nothing_to_do(self):
        for steps in ([], [X], [("times", 0, [X])], [("either", [], [("either", [], [X], [Y])], [Z]), Z],
                      [("less", "c", 1, [X], [Y]), Z]):
            self.check(steps, steps)

    def test_one_rule_after_another(self):
        self.check([("add", "c", 0)], [])
        self.check([("last", [("last", [("last", [], [])], [])], [])], [])
        self.check([("add", "c", 1), ("add", "c", 2), ("add", "c", -3), X], [X])
        self.check([("set", "c", 1), ("less", "c", 2, [("add", "c", 4)], [Y]), ("less", "c", 5, [X], [Z])], [("set", "c", 5), Z])
        self.check([("catch", "w", ["c"], [("either", [], [W, X], [Y])], [Z]), X], [Z, X])
        self.check([("last", [("catch", "v", [], [W], [])], [X]), Y], [X, W])

    def test_a_change_makes_the_step_ahead_fit(self):
        self.check([("set", "c", 1), ("last", [], [("set", "c", 2)]), X], [("set", "c", 2), X])
        self.check([X, ("set", "c", 1), ("less", "d", 1, [("add", "c", 1)], [("add", "c", 1)])], [X, ("set", "c", 2)])
        self.check([("set", "c", 1), ("times", 1, [X]), ("set", "c", 1), ("catch", "w", [], [("less", "c", 1, [X], [Y])], [])],
                   [("set", "c", 1), ("times", 1, [X]), ("set", "c", 1), Y])
        self.check([("copy", "c", "d", 0), ("either", [], [("add", "c", 3)], [BACK])], [("copy", "c", "d", 3)])

    def test_a_change_makes_the_steps_around_fit(self):
        self.check([("less", "c", 1, [("add", "c", 0), X], [X])], [X])
        self.check([("catch", "w", [], [("either", [], [BACK, W], [X])], [Y])], [X])
        self.check([("times", 2, [("last", [("less", "c", 1, [("last", [], [Y])], [Y])], [])])], [("times", 2, [Y])])
        self.check([("each", [], [("add", "c", 0)], [("copy", "c", "c", 0)]), X], [X])

    def test_the_first_pair_at_a_time(self):
        # The least path comes first, then the least name.
        self.check([("either", [], [W], [BACK])], [W])
        self.check([("last", [W], []), X], [W])
        # Were the second pair applied first, the copy would stay.
        self.check([("add", "c", 1), ("copy", "c", "d", 0), ("add", "c", 2)], [("copy", "c", "d", 2)])
        self.check([("set", "c", 1), ("copy", "c", "c", 0), ("set", "c", 2)], [("set", "c", 2)])

    def test_rules_that_are_not_applied(self):
        for steps in ([("times", 1, [X])], [("times", 0, [])], [("either", ["c"], [("either", ["c"], [X], [Y])], [Z])],
                      [("either", ["c"], [X], [Y]), Z]):
            self.check(steps, steps)

    def test_many_parts(self):
        applied = {}
        for seed in range(450):
            with self.subTest(seed=seed):
                steps = simple_part(Maker(seed))
                pairs = []
                expected = short_again(steps, pairs)
                found = short(Part(steps))
                self.assertEqual(found.steps(), expected)
                self.assertEqual(short(found), found)
                self.assertEqual([rule for _, rule in fitting(found) if rule not in ("spread", "turn", "unroll")], [])
                self.assertLessEqual(len(found), len(Part(steps)) - len(pairs))
                for _, rule in pairs:
                    applied[rule] = applied.get(rule, 0) + 1
        self.assertEqual(sorted(applied), [rule for rule in NAMES if rule not in ("spread", "turn", "unroll")])
        self.assertGreater(min(applied.values()), 10, applied)

    def test_by_name(self):
        self.assertEqual(short(part=Part([("add", "c", 0), X])), Part([X]))

    def test_larger_parts(self):
        frame = Part([("last", [HOLE, ("add", "c", 0)], []), X] * 20)
        part = filled(frame, Part([("add", "c", 1), ("add", "d", 1)] * 20))
        self.assertEqual(len(part), 20 * 43)
        self.assertEqual(short(part).steps(), (*[("add", "c", 1), ("add", "d", 1)] * 20, X) * 20)


class TestAlike(unittest.TestCase):
    """[28]: what a rule makes of a part is alike to it, also if the part is a frame, whatever is filled in."""

    def test_parts(self):
        many = {}
        for seed in range(900):
            with self.subTest(seed=seed):
                steps = simple_part(Maker(seed))
                if not is_small(steps):
                    continue
                part = Part(steps)
                for path, rule in fitting(part):
                    made = rewritten(part, rule, path)
                    if is_small(made.steps()):
                        many[rule] = many.get(rule, 0) + 1
                        self.assertIs(alike(part, made), True, (path, rule))
                self.assertIs(alike(part, short(part)), True)
        self.assertEqual(sorted(many), NAMES)
        self.assertGreater(min(many.values()), 20, many)

    def test_frames(self):
        many = {}
        for seed in range(120):
            with self.subTest(seed=seed):
                maker = Maker(seed)
                steps = simple_part(maker)
                for _ in range(2):
                    path, _ = maker.chance.choice(all_paths(steps))
                    steps = at_path(steps, path, lambda rest: [HOLE, *rest])
                frame = Part(steps)
                inner = [Part(maker.steps(2)) for _ in range(2)] + [Part([W]), Part([BACK]), Part([("either", [], [], [("fault", "u")])])]
                for path, rule in [*fitting(frame), ((), "short")]:
                    other = short(frame) if rule == "short" else rewritten(frame, rule, path)
                    many[rule] = many.get(rule, 0) + 1
                    for part in inner:
                        cells = {cell: maker.number() for cell in CELLS}
                        tales = []
                        for made in (filled(frame, part), filled(other, part)):
                            run = Run(made, cells)
                            tale = []
                            while run.ended is None and len(tale) < 6:
                                tale.append((run.answer(), run.said(), {cell: run[cell] for cell in CELLS}))
                                run["a"] = len(tale)
                            tales.append(tale)
                        self.assertEqual(tales[0], tales[1], (path, rule))
        self.assertEqual(sorted(many), sorted([*NAMES, "short"]))


if __name__ == "__main__":
    unittest.main()

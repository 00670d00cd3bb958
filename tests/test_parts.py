"""[8]: what parts tell, their paths and their operators."""

import unittest

from heldback.errors import BadPart, NoPath
from heldback.parts import Part
from samples import ANYTHING, BIG, NESTED, NO_STEPS, all_paths, listed, steps_of_each_kind, tupled

NESTED_PATHS = [
    (0,),
    (1,), (1, 0, 0), (1, 0, 1), (1, 0, 1, 0, 0), (1, 0, 1, 0, 1), (1, 1, 0),
    (2,), (2, 0, 0), (2, 0, 1), (2, 0, 1, 0, 0), (2, 0, 1, 1, 0), (2, 1, 0),
    (3,), (3, 0, 0), (3, 1, 0), (3, 1, 0, 1, 0), (3, 2, 0), (3, 2, 0, 0, 0), (3, 2, 0, 0, 0, 1, 0), (3, 2, 0, 1, 0),
    (4,),
]

NO_PATHS = [thing for thing in ANYTHING if thing != [1]] + [
    0, 1, -1, BIG, "say", "0", {}, {0: 0}, (), [], (5,), (-1,), (-5,), (BIG,), (0, 0), (1, 0), (1, 0, 0, 0), [0, 0],
    (0, 0, 0), (1, 2, 0), (1, 0, 2), (1, 1, 1), (1, -1, 0), (1, 0, -1), (-1, 0, 0), (1, 0, 0, 0, 0), (1, 0, 1, 1, 0),
    (1, 0, 1, 0, 2), (1, 0, 1, 0, 1, 0, 0), (4, 0, 0), (True,), (False,), (1, False, 0), (1, 0, True), (1, True, 0),
    [1, 0, False], (None,), ("0",), (1, "0", 0), (1, 0, None), ((0,),), [[0]], (1, (0,), 0), (1, 0, [0]), ({},),
    (3, 3, 0), (3, 2, 0, 2, 0), (2, 0, 1, 0, 1), (2, 0, 0, 0, 0), "0,0,0",
]


def put_at(steps, path, others):
    """The steps with others in the place of the step at the path, as lists."""
    steps = listed(steps)
    inner = steps
    for at, number in zip(path[0:-1:2], path[1::2]):
        lists = [item for item in inner[at][1:] if isinstance(item, list)]
        held = inner[at][0] in ("catch", "either", "whether", "each")
        inner = lists[number + held]
    inner[path[-1]:path[-1] + 1] = listed(others)
    return steps


class TestTold(unittest.TestCase):

    def test_steps_are_tuples_throughout(self):
        def check(thing):
            self.assertNotIsInstance(thing, list)
            if isinstance(thing, tuple):
                for item in thing:
                    check(item)

        for steps in (NESTED, listed(NESTED), tupled(NESTED), list(steps_of_each_kind().values())):
            told = Part(steps).steps()
            self.assertIs(type(told), tuple)
            self.assertEqual(told, tupled(steps))
            check(told)
        self.assertEqual(Part([]).steps(), ())
        self.assertEqual(Part(()).steps(), ())

    def test_cells(self):
        part = Part(NESTED)
        self.assertEqual(part.cells(), ["c", "d", "e", "f", "g", "h", "j", "k", "m", "n"])
        self.assertEqual(Part([]).cells(), [])
        self.assertEqual(Part([("say", "c"), ("fault", "d"), ("hole",)]).cells(), [])
        self.assertEqual(Part([("copy", "z", "b", 1), ("add", "b", 1), ("set", "a", 2)]).cells(), ["a", "b", "z"])
        self.assertEqual(Part([("below", "z", "b", 1, [], [])]).cells(), ["b", "z"])
        self.assertEqual(Part([("less", "z", 1, [], [])]).cells(), ["z"])
        for step in [("catch", "w", ["z", "y"], [], []), ("either", ["z", "y"], [], []), ("each", ["z", "y"], [], []),
                     ("whether", ["z", "y"], [], [], [])]:
            self.assertEqual(Part([step]).cells(), ["y", "z"])
        self.assertEqual(Part([("times", 0, [("set", "a", 1)])]).cells(), ["a"])
        self.assertEqual(Part([("set", "ab", 1), ("set", "b", 1), ("set", "a", 1)]).cells(), ["a", "ab", "b"])

    def test_words(self):
        self.assertEqual(Part(NESTED).words(), ["one", "two", "zwei"])
        self.assertEqual(Part([("say", "b"), ("say", "a"), ("say", "b")]).words(), ["a", "b"])
        self.assertEqual(Part([("fault", "a"), ("set", "b", 1)]).words(), [])

    def test_faults(self):
        self.assertEqual(Part(NESTED).faults(), ["u", "v", "w"])
        self.assertEqual(Part([("fault", "b"), ("catch", "a", ["c"], [], [("fault", "b")])]).faults(), ["a", "b"])
        self.assertEqual(Part([("say", "a"), ("set", "b", 1), ("back",)]).faults(), [])

    def test_each_list_is_looked_through(self):
        for word, step in steps_of_each_kind().items():
            for at, item in enumerate(step):
                if at and isinstance(item, list) and item:
                    inner = [("say", "w"), ("set", "zz", 1), ("fault", "ww"), ("last", [], [("say", "v")])]
                    part = Part([step[:at] + (inner,) + step[at + 1:]])
                    self.assertTrue({"w", "v"} <= set(part.words()), word)
                    self.assertIn("zz", part.cells())
                    self.assertIn("ww", part.faults())

    def test_lists_are_new_ones(self):
        part = Part(NESTED)
        for method in (part.cells, part.words, part.faults):
            before = method()
            self.assertIs(type(before), list)
            method().append("x")
            self.assertEqual(method(), before)

    def test_len(self):
        self.assertEqual(len(Part([])), 0)
        self.assertEqual(len(Part([("hole",), ("hole",)])), 2)
        self.assertEqual(len(Part([("times", 3, [("hole",)])])), 2)
        self.assertEqual(len(Part(NESTED)), len(NESTED_PATHS))
        self.assertEqual(len(Part([("whether", ["c"], [("back",)], [("hole",)] * 2, [("hole",)] * 3)])), 7)


class TestEquality(unittest.TestCase):

    def test_equal(self):
        self.assertTrue(Part(NESTED) == Part(listed(NESTED)))
        self.assertFalse(Part(NESTED) != Part(tupled(NESTED)))
        self.assertTrue(Part([]) == Part(()))

    def test_unequal(self):
        part = Part(NESTED)
        for other in (Part([]), Part(NESTED[:-1]), Part(NESTED[::-1]), Part(NESTED + [("hole",)])):
            self.assertFalse(part == other)
            self.assertTrue(part != other)
        self.assertNotEqual(Part([("say", "a")]), Part([("say", "b")]))
        self.assertNotEqual(Part([("set", "c", 1)]), Part([("add", "c", 1)]))
        self.assertNotEqual(Part([("either", ["c", "d"], [], [])]), Part([("either", ["d", "c"], [], [])]))
        self.assertNotEqual(Part([("either", [], [("hole",)], [])]), Part([("either", [], [], [("hole",)])]))
        self.assertNotEqual(Part([("set", "c", BIG)]), Part([("set", "c", BIG - 1)]))

    def test_nothing_else(self):
        for part in (Part([]), Part([("hole",)])):
            for other in [part.steps(), list(part.steps()), len(part), None, True, False, 0, 1, "", {}, [part], (part,)]:
                self.assertIs(part == other, False)
                self.assertIs(part != other, True)
                self.assertIs(other == part, False)


class TestPaths(unittest.TestCase):

    def test_each_step(self):
        for steps in (NESTED, listed(NESTED)):
            part = Part(steps)
            for path, step in all_paths(NESTED):
                self.assertEqual(part[path], tupled(step))
                self.assertEqual(part[list(path)], tupled(step))
                self.assertIs(type(part[path]), tuple)
        self.assertEqual([path for path, _ in all_paths(NESTED)], NESTED_PATHS)
        self.assertEqual(Part(NESTED)[1, 0, 1, 0, 0], ("add", "e", 1))
        self.assertEqual(Part(NESTED)[2, 1, 0], ("say", "one"))
        self.assertEqual(Part(NESTED)[0,], ("say", "one"))

    def test_no_path(self):
        part = Part(NESTED)
        for path in NO_PATHS:
            with self.subTest(path=path):
                with self.assertRaises(NoPath) as held:
                    part[path]
                self.assertEqual(held.exception.path, path)
                with self.assertRaises(NoPath) as held:
                    part.replaced(path, [("hole",)])
                self.assertEqual(held.exception.path, path)
        for path in ((0,), (), 0, (0, 0, 0)):
            self.assertRaises(NoPath, lambda: Part([])[path])

    def test_all_other_paths(self):
        part = Part(NESTED)
        numbers = range(-1, 6)
        for path in [(a,) for a in numbers] + [(a, b, c) for a in numbers for b in numbers for c in numbers]:
            if path not in NESTED_PATHS:
                self.assertRaises(NoPath, lambda: part[path])

    def test_it_is_not_changed(self):
        part = Part(NESTED)
        with self.assertRaises(TypeError):
            part[(0,)] = ("hole",)
        with self.assertRaises(TypeError):
            list(part)


class TestReplaced(unittest.TestCase):

    def test_none_one_and_several(self):
        for path in NESTED_PATHS:
            for others in ([], [("say", "x")], [("set", "x", 1), ("last", [("hole",)], []), ("back",)]):
                part = Part(NESTED)
                changed = part.replaced(path, others)
                self.assertEqual(changed.steps(), tupled(put_at(NESTED, path, others)))
                self.assertEqual(changed, part.replaced(list(path), tupled(others)))
                self.assertEqual(changed, part.replaced(steps=listed(others), path=path))
                self.assertEqual(part, Part(NESTED))

    def test_by_hand(self):
        part = Part([("hole",), ("either", ["c"], [("say", "a")], [("say", "b"), ("back",)])])
        self.assertEqual(part.replaced((0,), []).steps(), part.steps()[1:])
        self.assertEqual(part.replaced((1, 1, 0), [("hole",), ("hole",)]).steps(),
                         (("hole",), ("either", ("c",), (("say", "a"),), (("hole",), ("hole",), ("back",)))))
        self.assertEqual(part.replaced((1, 0, 0), []).steps(),
                         (("hole",), ("either", ("c",), (), (("say", "b"), ("back",)))))
        self.assertEqual(part.replaced((1,), part.steps()).steps(), (("hole",),) + part.steps())

    def test_bad_part(self):
        part = Part(NESTED)
        for path in NESTED_PATHS:
            for thing in NO_STEPS:
                for steps, place in [([thing], (0,)), ([("hole",), ("last", [], [("hole",), thing])], (1, 1, 1))]:
                    with self.assertRaises(BadPart) as held:
                        part.replaced(path, steps)
                    self.assertEqual(held.exception.path, place)
        self.assertEqual(part, Part(NESTED))

    def test_no_path_ahead_of_bad_part(self):
        for path in NO_PATHS:
            with self.assertRaises(NoPath) as held:
                Part(NESTED).replaced(path, [None])
            self.assertEqual(held.exception.path, path)

    def test_the_path_is_copied(self):
        path = [9, [1]]
        with self.assertRaises(NoPath) as held:
            Part(NESTED)[path]
        path[1].append(2)
        self.assertEqual(held.exception.path, [9, [1]])

    def test_the_steps_are_copied(self):
        steps = [["last", [["hole"]], []]]
        part = Part([("hole",)]).replaced((0,), steps)
        steps[0][1].append(["back"])
        self.assertEqual(part.steps(), (("last", (("hole",),), ()),))


class TestOperators(unittest.TestCase):

    def setUp(self):
        self.one = Part([("say", "a"), ("set", "c", 1)])
        self.other = Part([("back",)])

    def tearDown(self):
        self.assertEqual(self.one.steps(), (("say", "a"), ("set", "c", 1)))
        self.assertEqual(self.other.steps(), (("back",),))

    def test_sum(self):
        self.assertEqual((self.one + self.other).steps(), (("say", "a"), ("set", "c", 1), ("back",)))
        self.assertEqual((self.other + self.one).steps(), (("back",), ("say", "a"), ("set", "c", 1)))
        self.assertEqual(self.one + Part([]), self.one)
        self.assertEqual(Part([]) + self.one, self.one)
        self.assertIsInstance(self.one + self.other, Part)

    def test_sum_in_place(self):
        name = self.one
        name += self.other
        self.assertEqual(name.steps(), (("say", "a"), ("set", "c", 1), ("back",)))
        self.assertIsNot(name, self.one)
        name = self.one
        name += name
        self.assertEqual(name.steps(), self.one.steps() * 2)

    def test_times(self):
        for n in (0, 1, 2, 3):
            for product in (n * self.one, self.one * n):
                self.assertIsInstance(product, Part)
                self.assertEqual(product.steps(), (("times", n, self.one.steps()),))
        self.assertEqual((2 * Part([])).steps(), (("times", 2, ()),))
        self.assertEqual((2 * (3 * self.other)).steps(), (("times", 2, (("times", 3, (("back",),)),)),))

    def test_times_in_place(self):
        name = self.one
        name *= 3
        self.assertEqual(name, 3 * self.one)
        self.assertIsNot(name, self.one)

    def test_times_beyond(self):
        for n in (-1, 4, 5, 100, BIG, -BIG, True, False):
            with self.assertRaises(BadPart) as held:
                n * self.one
            self.assertEqual(held.exception.path, (0,))
            with self.assertRaises(BadPart) as held:
                self.one * n
            self.assertEqual(held.exception.path, (0,))

    def test_or(self):
        self.assertEqual((self.one | self.other).steps(), (("either", (), self.one.steps(), self.other.steps()),))
        self.assertEqual((self.other | self.one).steps(), (("either", (), self.other.steps(), self.one.steps()),))
        self.assertEqual((Part([]) | Part([])).steps(), (("either", (), (), ()),))
        name = self.one
        name |= self.other
        self.assertEqual(name, self.one | self.other)
        self.assertIsNot(name, self.one)

    def test_what_operators_return_runs(self):
        part = 3 * Part([("add", "c", 2)]) + (Part([("back",)]) | Part([("add", "c", 100)]))
        self.assertEqual(part(), {"c": 106})

    def test_other_operands(self):
        for other in (None, 1, "a", [("hole",)], (("hole",),)):
            with self.assertRaises(TypeError):
                self.one + other
            with self.assertRaises(TypeError):
                other + self.one
            with self.assertRaises(TypeError):
                self.one | other
            with self.assertRaises(TypeError):
                other | self.one


if __name__ == "__main__":
    unittest.main()

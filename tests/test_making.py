"""[6], [7]: what a step is, and the path of the first thing that is not one."""

import itertools
import unittest

from heldback.errors import BadPart
from heldback.parts import Part
from samples import BAD, GOOD, NESTED, NO_STEPS, SHAPES, all_paths, listed, steps_of_each_kind, tupled

# In each list there is one more place.
SKELETON = [
    ["less", "c", 1, [["say", "a"], ["hole"]], [["hole"], ["times", 2, [["hole"], ["add", "c", 1]]]]],
    ["below", "c", "d", 1, [["say", "a"]], [["hole"]]],
    ["catch", "w", ["c"], [["fault", "w"]], [["last", [["hole"]], [["hole"], ["back"]]]]],
    ["whether", [], [["either", [], [["hole"]], [["back"]]]], [["set", "c", 1]], [["each", ["d"], [["hole"]], [["say", "b"]]]]],
    ["copy", "c", "d", 0],
]


def parent_list(steps, path):
    """The list in which the step at the path stands."""
    while len(path) > 1:
        steps = [item for kind, item in zip(SHAPES[steps[path[0]][0]], steps[path[0]][1:]) if kind == "list"][path[1]]
        path = path[2:]
    return steps


def with_things(steps, changes):
    """The steps with other things at some paths; changes deeper inside come first."""
    steps = listed(steps)
    for path, thing in sorted(changes, key=lambda change: change[0], reverse=True):
        parent_list(steps, path)[path[-1]] = thing
    return steps


class TestSteps(unittest.TestCase):

    def assert_bad(self, steps, path):
        with self.assertRaises(BadPart) as held:
            Part(steps)
        self.assertEqual(held.exception.path, path)
        self.assertIs(type(held.exception.path), tuple)
        self.assertTrue(all(type(at) is int for at in held.exception.path))

    def test_each_kind_is_a_step(self):
        for word, step in steps_of_each_kind().items():
            with self.subTest(word):
                self.assertEqual(Part([step]).steps(), tupled([step]))
                self.assertEqual(Part(listed([step])).steps(), tupled([step]))
                self.assertEqual(Part(tupled([step])).steps(), tupled([step]))

    def test_good_items(self):
        for word, step in steps_of_each_kind().items():
            for at, kind in enumerate(SHAPES[word], start=1):
                for item in GOOD[kind]:
                    with self.subTest(word, at=at, item=item):
                        changed = step[:at] + (item,) + step[at + 1:]
                        self.assertEqual(Part([changed]).steps(), tupled([changed]))

    def test_bad_items(self):
        for word, step in steps_of_each_kind().items():
            for at, kind in enumerate(SHAPES[word], start=1):
                for item in BAD[kind]:
                    with self.subTest(word, at=at, item=item):
                        changed = step[:at] + (item,) + step[at + 1:]
                        self.assert_bad([changed], (0,))
                        self.assert_bad([["hole"], list(changed)], (1,))
                        self.assert_bad([("last", [], [("hole",), changed, ()])], (0, 1, 1))

    def test_two_bad_items(self):
        for word, step in steps_of_each_kind().items():
            for one, other in itertools.combinations(range(1, len(step)), 2):
                changed = list(step)
                changed[one] = None
                changed[other] = True
                self.assert_bad([step, changed, step], (1,))

    def test_truth_values_are_no_numbers(self):
        for truth in (True, False):
            for step in [("set", "c", truth), ("add", "c", truth), ("copy", "c", "d", truth), ("times", truth, []),
                         ("less", "c", truth, [], []), ("below", "c", "d", truth, [], [])]:
                self.assert_bad([step], (0,))

    def test_more_and_fewer_items(self):
        for word, step in steps_of_each_kind().items():
            for extra in ([], (), "a", 1, None, ("hole",)):
                self.assert_bad([step + (extra,)], (0,))
            for at in range(len(step)):
                self.assert_bad([step[:at] + step[at + 1:]], (0,))
            self.assert_bad([step + step[1:] + step[1:] + (1,)], (0,))

    def test_words_of_steps(self):
        for word, step in steps_of_each_kind().items():
            for other in ("", word.upper(), word + " ", word + "s", None, 0, True, [word], (word,), {word: 1}, {}):
                self.assert_bad([(other,) + step[1:]], (0,))

    def test_times(self):
        for n in (0, 1, 2, 3):
            self.assertEqual(Part([("times", n, [])]).steps(), (("times", n, ()),))
        for n in (-1, 4, 5, 100, -3, True, False, None, "1", [1]):
            self.assert_bad([("times", n, [])], (0,))

    def test_back_is_no_word_of_a_fault_or_a_catch(self):
        self.assert_bad([("fault", "back")], (0,))
        self.assert_bad([("catch", "back", [], [], [])], (0,))
        self.assertEqual(Part([("say", "back"), ("set", "back", 1)]).cells(), ["back"])

    def test_anything_in_the_place_of_a_step(self):
        for thing in NO_STEPS:
            with self.subTest(thing=thing):
                self.assert_bad([thing], (0,))
                self.assert_bad((("hole",), thing, thing), (1,))
                for word, step in steps_of_each_kind().items():
                    places = [at for at, kind in enumerate(SHAPES[word], start=1) if kind == "list"]
                    for number, at in enumerate(places):
                        changed = step[:at] + ([("hole",), thing],) + step[at + 1:]
                        self.assert_bad([changed], (0, number, 1))

    def test_what_is_no_list_is_no_part(self):
        for thing in (None, True, 0, 5, "", "say", "hole", {}, {"say": "a"}):
            self.assert_bad(thing, ())

    def test_one_wrong_thing_anywhere(self):
        for path, _ in all_paths(SKELETON):
            for thing in (None, "say", [], ("say", "A"), ("catch", "back", [], [None], [None]), ("last", [None], "a")):
                self.assert_bad(with_things(SKELETON, [(path, thing)]), path)

    def test_the_first_of_several_wrong_things(self):
        paths = [path for path, _ in all_paths(SKELETON)]
        for count in (2, 3):
            for chosen in itertools.combinations(paths, count):
                changes = [(path, None) for path in chosen]
                self.assert_bad(with_things(SKELETON, changes), min(chosen))

    def test_a_step_comes_before_the_things_in_its_lists(self):
        for path, step in all_paths(listed(NESTED) + SKELETON):
            inner = [place for place, kind in enumerate(SHAPES[step[0]], start=1) if kind == "list"]
            for place in range(1, len(step)):
                changed = list(step)
                for at in inner:
                    changed[at] = [None]
                changed[place] = None
                self.assert_bad(with_things(listed(NESTED) + SKELETON, [(path, changed)]), path)

    def test_lists_in_their_order(self):
        self.assert_bad([("last", [("hole",)], [0])], (0, 1, 0))
        self.assert_bad([("last", [("hole",), 0], [0])], (0, 0, 1))
        self.assert_bad([("either", ["c"], [], [0])], (0, 1, 0))
        self.assert_bad([("whether", ["c"], [], [], [0])], (0, 2, 0))
        self.assert_bad([("whether", ["c"], [], [0], [0])], (0, 1, 0))
        self.assert_bad([("catch", "w", ["c"], [], [0]), 0], (0, 1, 0))
        self.assert_bad([("times", 0, [0])], (0, 0, 0))
        self.assert_bad([("last", [("last", [("last", [], [("hole",), 0])], [0])], [0])], (0, 0, 0, 0, 0, 1, 1))

    def test_deep_lists(self):
        steps = [("say", "a")]
        wrong = [("say", 1)]
        for _ in range(15):
            steps = [("hole",), ("last", [], steps)]
            wrong = [("hole",), ("last", [], wrong)]
        self.assertEqual(len(Part(steps)), 31)
        self.assert_bad(wrong, (1, 1) * 15 + (0,))

    def test_arguments_are_copied(self):
        steps = listed(NESTED)
        before = tupled(NESTED)
        part = Part(steps)
        self.assertEqual(steps, listed(NESTED))
        steps[1][3].append(["hole"])
        steps[1][3][0][1] = "x"
        steps[2][2].append("x")
        steps.append(("say", "x"))
        self.assertEqual(part.steps(), before)
        self.assertEqual(part, Part(NESTED))

    def test_a_refused_argument_is_not_changed(self):
        steps = [["less", "c", 1, [["say", "a"]], [None]]]
        self.assert_bad(steps, (0, 1, 0))
        self.assertEqual(steps, [["less", "c", 1, [["say", "a"]], [None]]])

    def test_by_name(self):
        self.assertEqual(Part(steps=[("hole",)]), Part([("hole",)]))


if __name__ == "__main__":
    unittest.main()

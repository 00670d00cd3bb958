"""[19], [20]: the saves of a part, the parts that keep some of them, and which of them are needed."""

import itertools
import unittest

from heldback.errors import NoSave
from heldback.likeness import alike
from heldback.parts import Part
from heldback.saves import keeping, least_saves, needless, saves
from samples import ANYTHING, NESTED, listed, tupled
from wished import keeping_again, least_saves_again, needless_again, saves_again

SAY_X, SAY_Y, BACK = ("say", "x"), ("say", "y"), ("back",)
# The example of [20].
TOGETHER = [("either", ["c", "d"], [("add", "c", 5), ("add", "d", 5), BACK], []),
            ("below", "c", "d", 0, [SAY_X], [SAY_Y]), ("set", "c", 0), ("set", "d", 0)]
# Saves in each kind of step that holds cells, and within the lists of each kind of step.
WITHIN = [
    ("either", ["d", "c"], [("whether", ["b"], [("each", ["c", "a"], [], [("catch", "w", ["e"], [], [])])], [], [])],
     [("catch", "w", ["c", "b"], [("either", ["c"], [], [])], [("either", ["c"], [], [])])]),
    ("less", "c", 1, [("catch", "v", ["z"], [], [])], [("catch", "v", ["y"], [], [])]),
    ("below", "c", "d", 1, [("each", ["q"], [], [])], [("each", ["p"], [], [])]),
    ("times", 2, [("whether", ["m"], [], [("whether", [], [], [], [])], [("whether", ["n"], [], [], [])])]),
    ("last", [("either", ["k"], [], [])], [("either", ["j", "k"], [], [])]),
]


def kept_of(steps, kept):
    return keeping(Part(steps), kept).steps()


class TestSaves(unittest.TestCase):

    def check(self, steps, expected):
        found = saves(Part(steps))
        self.assertEqual(found, expected)
        self.assertIs(type(found), list)
        for save in found:
            self.assertEqual((type(save), type(save[0])), (tuple, tuple))

    def test_each_kind_of_step(self):
        self.check([("catch", "w", ["c"], [], [])], [((0,), "c")])
        self.check([("either", ["c"], [], [])], [((0,), "c")])
        self.check([("whether", ["c"], [], [], [])], [((0,), "c")])
        self.check([("each", ["c"], [], [])], [((0,), "c")])
        self.check([("set", "c", 1), ("add", "c", 1), ("copy", "c", "d", 1), ("less", "c", 1, [], []), ("hole",),
                    ("below", "c", "d", 1, [], []), ("times", 1, []), ("last", [], []), ("say", "c"), ("fault", "c")], [])
        self.check([], [])

    def test_no_cells(self):
        self.check([("either", [], [], []), ("catch", "c", [], [], [])], [])

    def test_ascending_cells_and_paths(self):
        self.check([("either", ["d", "c", "e"], [], []), ("each", ["b", "a"], [], [])],
                   [((0,), "c"), ((0,), "d"), ((0,), "e"), ((1,), "a"), ((1,), "b")])
        self.check([("hole",)] * 9 + [("either", ["c"], [], [])] * 3, [((at,), "c") for at in (9, 10, 11)])
        self.check([("last", [("hole",)] * 9 + [("either", ["c"], [], [])] * 3, [])],
                   [((0, 0, at), "c") for at in (9, 10, 11)])

    def test_saves_within_one_another(self):
        self.check(WITHIN, [
            ((0,), "c"), ((0,), "d"), ((0, 0, 0), "b"), ((0, 0, 0, 0, 0), "a"), ((0, 0, 0, 0, 0), "c"),
            ((0, 0, 0, 0, 0, 1, 0), "e"), ((0, 1, 0), "b"), ((0, 1, 0), "c"), ((0, 1, 0, 0, 0), "c"),
            ((0, 1, 0, 1, 0), "c"), ((1, 0, 0), "z"), ((1, 1, 0), "y"), ((2, 0, 0), "q"), ((2, 1, 0), "p"),
            ((3, 0, 0), "m"), ((3, 0, 0, 2, 0), "n"), ((4, 0, 0), "k"), ((4, 1, 0), "j"), ((4, 1, 0), "k"),
        ])

    def test_a_returned_list_is_a_new_one(self):
        part = Part(NESTED)
        found = saves(part=part)
        self.assertEqual(found, saves_again(NESTED))
        found.clear()
        self.assertEqual(saves(part), saves_again(NESTED))


class TestKeeping(unittest.TestCase):

    def test_all_some_and_none(self):
        own = saves_again(WITHIN)
        self.assertEqual(keeping(Part(WITHIN), own), Part(WITHIN))
        self.assertEqual(saves(keeping(Part(WITHIN), [])), [])
        self.assertEqual(kept_of(WITHIN, []), keeping_again(WITHIN, []))
        for save in own:
            self.assertEqual(kept_of(WITHIN, [save]), keeping_again(WITHIN, [save]))
            others = [other for other in own if other != save]
            self.assertEqual(kept_of(WITHIN, others), keeping_again(WITHIN, others))
            self.assertEqual(saves(keeping(Part(WITHIN), others)), others)

    def test_the_order_in_which_they_stood(self):
        steps = [("either", ["d", "a", "c", "b"], [], [])]
        for kept in itertools.permutations("abcd", 3):
            held = tuple(cell for cell in "dacb" if cell in kept)
            self.assertEqual(kept_of(steps, [((0,), cell) for cell in kept]), (("either", held, (), ()),))

    def test_nothing_but_held_changes(self):
        self.assertEqual(kept_of(NESTED, saves_again(NESTED)), tupled(NESTED))
        self.assertEqual(kept_of([("catch", "w", ["w"], [("fault", "w"), ("set", "w", 1)], [("say", "w")])], []),
                         (("catch", "w", (), (("fault", "w"), ("set", "w", 1)), (("say", "w"),)),))

    def test_a_save_several_times(self):
        for kept in ([((0,), "c")] * 2, [((0,), "c"), ((0,), "d"), ((0,), "c")]):
            self.assertEqual(kept_of(TOGETHER, kept), keeping_again(TOGETHER, kept))

    def test_lists_for_pairs_and_paths(self):
        own = saves_again(WITHIN)
        self.assertEqual(kept_of(WITHIN, listed(own)), tupled(WITHIN))
        self.assertEqual(kept_of(WITHIN, tuple(own)), tupled(WITHIN))
        self.assertEqual(kept_of(WITHIN, [[path, cell] for path, cell in own[3:9]]), keeping_again(WITHIN, own[3:9]))
        self.assertEqual(kept_of(WITHIN, [(list(path), cell) for path, cell in own[3:9]]), keeping_again(WITHIN, own[3:9]))

    def assert_refused(self, steps, kept, thing):
        with self.assertRaises(NoSave) as held:
            keeping(Part(steps), kept)
        self.assertEqual(tupled(held.exception.save), tupled(thing))

    def test_the_first_thing_that_is_no_save(self):
        good = ((0,), "c")
        for thing in [*ANYTHING, 0, 5, "c", "either", {}, {"c": 1}, ((0,), "e"), ((1,), "c"), ((0, 0, 0), "c"), ((9,), "c"),
                      ((), "c"), ((0,), "c", "d"), ((0,),), (0, "c"), ("c", (0,)), ((0,), ("c",)), ((0,), None), ((0,), 1),
                      (None, "c"), ((False,), "c"), [[True], "c"], ((0, 0), "c"), ((-1,), "c"), ((0,), ["c"]), [[], []],
                      ((0,), {}), ({}, "c"), ("0", "c"), (("0",), "c"), ((None,), "c"), ((0, -3, 0), "c"), ((0,), "C")]:
            with self.subTest(thing=thing):
                self.assert_refused(TOGETHER, [thing], thing)
                self.assert_refused(TOGETHER, (thing, good), thing)
                self.assert_refused(TOGETHER, [good, thing, None, ((7,), "c")], thing)
                self.assert_refused([], [thing], thing)

    def test_truth_values_are_no_places(self):
        steps = [("hole",), ("either", ["c"], [], [("either", ["d"], [], [])])]
        self.assertEqual(keeping(Part(steps), saves_again(steps)), Part(steps))
        for save in (((True,), "c"), ((1, True, 0), "d"), ((1, 1, False), "d"), ([True], "c")):
            self.assert_refused(steps, [((1,), "c"), save], save)

    def test_cells_of_other_steps(self):
        steps = [("either", ["c"], [], []), ("either", ["d"], [], []), ("set", "e", 1)]
        for save in (((0,), "d"), ((1,), "c"), ((2,), "e"), ((0,), "e")):
            self.assert_refused(steps, [save], save)

    def test_arguments_stay(self):
        part, kept = Part(WITHIN), listed(saves_again(WITHIN)[:5])
        found = keeping(kept=kept, part=part)
        self.assertEqual(found.steps(), keeping_again(WITHIN, saves_again(WITHIN)[:5]))
        self.assertEqual((part.steps(), kept), (tupled(WITHIN), listed(saves_again(WITHIN)[:5])))
        kept[0][0].append(3)
        kept.clear()
        self.assertEqual(found.steps(), keeping_again(WITHIN, saves_again(WITHIN)[:5]))

    def test_an_error_keeps_what_was_passed(self):
        thing = [[7], "c"]
        with self.assertRaises(NoSave) as held:
            keeping(Part(TOGETHER), [thing])
        thing[0].append(8)
        self.assertEqual(tupled(held.exception.save), ((7,), "c"))


class TestNeeds(unittest.TestCase):

    def check(self, steps, alone, least):
        part = Part(steps)
        found = needless(part), least_saves(part)
        self.assertEqual(found, (alone, least))
        self.assertEqual(found, (needless_again(tupled(steps)), least_saves_again(tupled(steps))))
        for save in [*found[0], *found[1]]:
            self.assertEqual((type(save), type(save[0])), (tuple, tuple))
        self.assertTrue(alike(part, keeping(part, least)))

    def test_no_saves(self):
        self.check([], [], [])
        self.check([SAY_X, ("either", [], [SAY_X], [SAY_Y])], [], [])

    def test_needed(self):
        self.check([("either", ["c"], [], [])], [], [((0,), "c")])
        self.check([("either", ["c"], [("add", "c", 1), BACK], [])], [], [((0,), "c")])
        self.check([("catch", "w", ["c"], [("add", "c", 1), ("fault", "w")], [])], [], [((0,), "c")])
        self.check([("whether", ["c"], [("set", "c", 1), BACK], [], [])], [], [((0,), "c")])
        self.check([("each", ["c"], [], [("add", "c", 1)])], [], [((0,), "c")])
        self.check([("last", [("either", ["d", "c"], [("set", "c", 1), ("set", "d", 1), BACK], [])], [])], [],
                   [((0, 0, 0), "c"), ((0, 0, 0), "d")])

    def test_not_needed(self):
        self.check([("catch", "w", ["c"], [("add", "c", 1)], [])], [((0,), "c")], [])
        self.check([("set", "c", 0), ("catch", "w", ["c"], [("fault", "w")], [])], [((1,), "c")], [])
        self.check([("either", ["c"], [("add", "d", 1), BACK], [("set", "c", 1)]), ("set", "c", 3)], [((0,), "c")], [])
        self.check([("each", ["c"], [], []), ("set", "c", 3)], [((0,), "c")], [])
        self.check([("whether", ["c"], [], [], [("set", "c", 2)]), ("add", "c", 1)], [((0,), "c")], [])

    def test_not_needed_one_by_one_but_together(self):
        # [20]: neither save can be left out alone, but both together can.
        self.check(TOGETHER, [], [])

    def test_only_one_of_two(self):
        inner = ("either", ["c"], [("add", "c", 1), BACK], [BACK])
        self.check([("either", ["c"], [("add", "c", 1), inner], [])], [((0, 0, 1), "c")], [((0,), "c")])
        inner = ("either", ["c"], [("add", "c", 1), BACK], [("set", "d", 0)])
        self.check([("catch", "w", ["c"], [inner], [])], [((0,), "c")], [((0, 0, 0), "c")])

    def test_the_least_of_several_lists(self):
        # Either of the two saves is enough alone.
        steps = [("catch", "w", ["c"], [("catch", "w", ["c"], [("add", "c", 1), ("fault", "w")], [("fault", "w")])], [])]
        self.check(steps, [((0,), "c"), ((0, 0, 0), "c")], [((0,), "c")])
        steps = [("either", ["d", "c"], [("either", ["c", "d"], [("add", "c", 1), ("add", "d", 1), BACK], [BACK])], [])]
        self.check(steps, saves_again(steps), [((0,), "c"), ((0,), "d")])

    def test_a_save_that_only_names_a_cell(self):
        # Without the save the part does not name the cell; at each answer it is compared all the same.
        self.check([("catch", "w", ["q"], [("fault", "w")], [])], [((0,), "q")], [])
        self.check([("either", ["q"], [BACK], [])], [((0,), "q")], [])
        self.check([("either", ["q"], [], [BACK])], [], [((0,), "q")])
        self.check([("whether", ["q"], [], [], [])], [((0,), "q")], [])

    def test_six_saves(self):
        steps = [("catch", "w", [cell], [("add", cell, 1), ("less", "g", n, [("fault", "w")], [])], [])
                 for n, cell in enumerate("abcdef")]
        own = saves_again(steps)
        self.assertEqual((needless(Part(steps)), least_saves(Part(steps))), ([], own))
        steps.extend([("set", cell, 0) for cell in "bdf"])
        self.assertEqual((needless(Part(steps)), least_saves(Part(steps))), (own[1::2], own[::2]))
        steps.extend([("set", cell, 0) for cell in "ace"])
        self.assertEqual((needless(Part(steps)), least_saves(Part(steps))), (own, []))

    def test_by_name_and_the_part_stays(self):
        part = Part(TOGETHER + [("either", ["e"], [], [])])
        before = part.steps()
        for tell in (needless, least_saves, saves):
            found = tell(part=part)
            self.assertEqual(found, tell(part))
            found.append(1)
            self.assertEqual(tell(part), found[:-1])
        self.assertEqual(part.steps(), before)


if __name__ == "__main__":
    unittest.main()

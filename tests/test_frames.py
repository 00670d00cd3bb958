"""[15], [16]: frames that are filled, frames that tell parts from each other, and alike parts in frames."""

import unittest

from heldback.frames import filled, framing
from heldback.likeness import alike
from heldback.parts import Part
from heldback.runs import Run
from samples import BIG, NESTED, all_paths, listed, steps_of_each_kind
from test_likeness import SAME, SAY_X, SAY_Y, UNLIKE, behind_answers

HOLE = ("hole",)
LETTERS = "abcdefghijklmnopqrstuvwxyz"
PAIRS = [one + other for one in LETTERS for other in LETTERS]


class TestFilled(unittest.TestCase):

    def check(self, frame, steps, expected):
        found = filled(Part(frame), Part(steps))
        self.assertIs(type(found), Part)
        self.assertEqual(found, Part(expected))
        self.assertEqual(filled(Part(listed(frame)), Part(listed(steps))), found)

    def test_none_one_and_several_holes(self):
        self.check([], [SAY_X], [])
        self.check([SAY_Y], [SAY_X], [SAY_Y])
        self.check([HOLE], [SAY_X], [SAY_X])
        self.check([HOLE], [], [])
        self.check([HOLE, SAY_Y, HOLE, HOLE], [SAY_X, ("back",)],
                   [SAY_X, ("back",), SAY_Y, SAY_X, ("back",), SAY_X, ("back",)])

    def test_every_list_of_every_kind_of_step(self):
        inner = [SAY_X, ("add", "c", 1)]

        def with_lists(lists):
            first, second, third = lists
            return [
                ("less", "c", 3, first, second), ("below", "c", "d", -3, first, second), ("times", 2, first),
                ("catch", "w", ["c", "d"], first, second), ("last", first, second), ("either", ["c"], first, second),
                ("whether", ["d"], first, second, third), ("each", [], first, second),
            ]

        for at in range(3):
            before, after = [[SAY_Y], [SAY_Y], [SAY_Y]], [[SAY_Y], [SAY_Y], [SAY_Y]]
            before[at], after[at] = [HOLE, SAY_Y], [*inner, SAY_Y]
            self.check(with_lists(before), inner, with_lists(after))
        self.check(with_lists([[HOLE]] * 3), inner, with_lists([inner] * 3))
        self.check(with_lists([[HOLE]] * 3), [], with_lists([[]] * 3))

    def test_steps_without_holes_stay(self):
        steps = [step for word, step in steps_of_each_kind().items() if word != "hole"]
        for step in steps:
            self.assertEqual(filled(Part([step]), Part([HOLE])), Part([step]))
        # Names that are like the word of the step are no holes.
        names = [("say", "hole"), ("fault", "hole"), ("catch", "hole", ["hole"], [], []), ("set", "hole", 1),
                 ("either", ["hole"], [("say", "hole")], [])]
        self.check(names, [SAY_X], names)

    def test_deep(self):
        frame, expected = [SAY_Y, HOLE], [SAY_Y, SAY_X, SAY_X]
        for _ in range(9):
            frame, expected = [HOLE, ("last", [], frame)], [SAY_X, SAY_X, ("last", [], expected)]
        self.check(frame, [SAY_X, SAY_X], expected)

    def test_a_part_with_holes_of_its_own(self):
        self.check([HOLE, ("times", 2, [HOLE])], [HOLE, ("last", [HOLE], [])],
                   [HOLE, ("last", [HOLE], []), ("times", 2, [HOLE, ("last", [HOLE], [])])])
        again = filled(filled(Part([HOLE, SAY_Y]), Part([SAY_X, HOLE])), Part([("back",)]))
        self.assertEqual(again, Part([SAY_X, ("back",), SAY_Y]))

    def test_within_times(self):
        self.check([("times", 3, [HOLE])], [SAY_X], [("times", 3, [SAY_X])])
        run = Run(filled(Part([("times", 3, [HOLE, SAY_Y])]), Part([SAY_X])))
        run.answer()
        self.assertEqual(run.said(), ["x", "y"] * 3)

    def test_frame_and_part_stay(self):
        frame, part = Part(NESTED), Part([SAY_X, HOLE])
        before = frame.steps(), part.steps()
        found = filled(frame, part)
        self.assertEqual((frame.steps(), part.steps()), before)
        holes = [path for path, step in all_paths(NESTED) if step[0] == "hole"]
        self.assertEqual(len(found), len(frame) + len(holes))
        self.assertEqual(found, filled(frame=frame, part=part))
        self.assertEqual(found, filled(part=part, frame=frame))

    def test_the_greatest_parts(self):
        frame, part = Part([HOLE] * 40), Part([SAY_X] * 40)
        self.assertEqual(len(filled(frame, part)), 1600)


class TestFraming(unittest.TestCase):

    def check(self, one, other):
        """Whether there is a frame, and that it tells the two parts from each other, both ways round."""
        found = []
        for first, second in ((one, other), (other, one)):
            frame = framing(first, second)
            found.append(frame is not None)
            self.assertEqual(frame is None, alike(first, second))
            if frame is not None:
                self.assertIs(type(frame), Part)
                runs = [Run(filled(frame, part)) for part in (first, second)]
                self.assertEqual([run.answer() for run in runs], [("answer",), ("answer",)])
                self.assertNotEqual(runs[0].said(), runs[1].said())
        self.assertEqual(found[0], found[1])
        return found[0]

    def test_just_where_alike_holds(self):
        for one, other in SAME:
            with self.subTest(one=one, other=other):
                self.assertFalse(self.check(Part(one), Part(other)))
        for one, other, _ in UNLIKE:
            with self.subTest(one=one, other=other):
                self.assertTrue(self.check(Part(one), Part(other)))

    def test_every_pair_of_ends(self):
        ends = [[], [("back",)], [("fault", "w")], [("fault", "v")], [("say", "w"), ("fault", "w")]]
        for many in range(3):
            for at, one in enumerate(ends):
                for number, other in enumerate(ends):
                    pair = Part(behind_answers(many, one)), Part(behind_answers(many, other))
                    self.assertIs(self.check(*pair), at != number)

    def test_cells_alone(self):
        for end in ([], [("back",)], [("fault", "w")]):
            for many in range(3):
                for change in (("add", "c", 1), ("set", "c", -BIG), ("copy", "c", "d", 0)):
                    self.assertTrue(self.check(Part(behind_answers(many, [change] + end)),
                                               Part(behind_answers(many, end))))

    def test_for_other_cells_than_0(self):
        for low, high in ((5, 6), (-9, -8), (BIG - 1, BIG), (-BIG, 1 - BIG), (1, 40)):
            between = [("less", "c", high, [("less", "c", low, [], [SAY_X])], [])]
            for many in range(3):
                self.assertTrue(self.check(Part(behind_answers(many, between)), Part(behind_answers(many, []))))

    def test_words_that_come_to_the_same_in_all(self):
        # What the frame says at the end must not make up for what was said before.
        for word in list(LETTERS) + ["answer", "none", "fault", "low", "less"]:
            for one, other in (([("say", word), ("back",)], []), ([("say", word), ("fault", "w")], []),
                               ([("say", word)], [("back",)]), ([("say", word), ("add", "c", 1)], [("say", word)]),
                               ([("say", word)], [("fault", word if word != "none" else "w")])):
                self.assertTrue(self.check(Part(one), Part(other)))

    def test_all_cells_of_one_letter(self):
        held = [("catch", "w", list(LETTERS), [], [])]
        for many in (0, 1, 2):
            one, other = behind_answers(many, [("add", "z", 1)]), behind_answers(many, [])
            self.assertTrue(self.check(Part(held + one), Part(held + other)))
            self.assertTrue(self.check(Part(held[:0] + one), Part(held + other)))
            self.assertTrue(self.check(Part(held + one), Part(held[:0] + other)))

    def test_cells_that_choices_put_back(self):
        # A frame that counts the answers in a cell of the part would lose its count.
        for cells in (list(LETTERS), list(LETTERS) + PAIRS, PAIRS[::-1] + list(LETTERS)):
            def both(body):
                return [("either", cells, [], [("either", cells, [], body)])]
            self.assertTrue(self.check(Part(both([SAY_X])), Part(both([SAY_Y]))))
            self.assertTrue(self.check(Part(both([SAY_X])), Part(behind_answers(2, [SAY_Y]))))
            self.assertTrue(self.check(Part(both([("add", "a", 1)])), Part(both([]))))

    def test_cells_and_words_that_a_frame_would_take_first(self):
        ends = [[("add", "c", 1)], []]
        cells, words = ["c"], ["x"]
        for _ in range(12):
            # Both parts hold all cells of the frames before, and say all their words.
            ahead = [*[("say", word) for word in words], ("either", cells, [], [])]
            one, other = [Part(ahead + behind_answers(1, end)) for end in ends]
            self.assertTrue(self.check(one, other))
            frame = framing(one, other)
            self.assertNotEqual((set(frame.cells()), set(frame.words())), (set(), set()))
            cells = sorted({*cells, *frame.cells()})
            words = sorted({*words, *frame.words()})

    def test_all_words_of_one_letter(self):
        says = [("say", letter) for letter in LETTERS]
        for one, other in (([("back",)], []), ([("fault", "a")], []), ([("fault", "a")], [("fault", "b")]),
                           ([("add", "a", 1)], []), ([("say", "a")], []), ([("fault", "b")], [("back",)])):
            self.assertTrue(self.check(Part(says + one), Part(says + other)))
            self.assertTrue(self.check(Part(says + behind_answers(1, one)), Part(says + behind_answers(1, other))))

    def test_words_of_the_longest_names(self):
        one = [("say", "abcdefgh"), ("add", "zzzzzzzz", 1), ("fault", "stuvwxyz")]
        other = [("say", "abcdefgh"), ("fault", "stuvwxyz")]
        self.assertTrue(self.check(Part(one), Part(other)))
        self.assertTrue(self.check(Part(one[:2]), Part(other[:1])))

    def test_faults_that_the_part_catches_itself(self):
        inner = ("catch", "w", [], [("either", [], [SAY_X], [("fault", "w")])], [SAY_Y])
        self.assertTrue(self.check(Part([inner, ("fault", "w")]), Part([inner, ("fault", "v")])))
        self.assertTrue(self.check(Part([inner]), Part([SAY_X])))
        self.assertTrue(self.check(Part([("last", [("fault", "w")], [SAY_X])]), Part([("fault", "w")])))

    def test_choices_that_stay_open_and_that_are_closed(self):
        open_one = [("whether", [], [("either", [], [], [])], [], [])]
        self.assertFalse(self.check(Part(open_one), Part([])))
        self.assertTrue(self.check(Part([("either", [], [], [])]), Part(open_one)))

    def test_holes_in_the_parts(self):
        self.assertTrue(self.check(Part([HOLE, SAY_X]), Part([HOLE])))
        self.assertFalse(self.check(Part([HOLE, SAY_X]), Part([SAY_X, HOLE, HOLE])))

    def test_late_answers(self):
        held = ["p", "q", "r", "s"]
        ahead = [("either", held, [("set", to, 0)], [("copy", to, of, 0)]) for to, of in zip("qrs", "pqr")]
        ahead = [("either", held, [("set", "p", 0)], [("set", "p", 1)])] + ahead
        other = ahead[:3] + [("either", held, [("set", "s", 0)], [("set", "s", 0)])]
        self.assertTrue(self.check(Part(ahead), Part(other)))

    def test_the_arguments_and_the_same_at_each_time(self):
        one, other = Part([SAY_X]), Part([SAY_Y])
        self.assertEqual(framing(one=one, other=other), framing(one, other))
        self.assertIsNone(framing(other=Part([SAY_X]), one=one))
        self.assertEqual((one, other), (Part([SAY_X]), Part([SAY_Y])))
        for first, second, _ in UNLIKE[:20]:
            self.assertEqual(framing(Part(first), Part(second)), framing(Part(first), Part(second)))

    def test_a_frame_may_be_passed_again(self):
        one, other = Part(behind_answers(4, [("add", "c", BIG)])), Part(behind_answers(4, []))
        frame = framing(one, other)
        self.assertEqual(filled(frame, Part([HOLE])), frame)
        self.assertEqual(len(filled(Part([HOLE, HOLE]), frame)), 2 * len(frame))
        self.assertEqual(Part(frame.steps()), frame)


class TestAlikePartsInFrames(unittest.TestCase):
    """[16]: alike parts say the same words and come to the same first end in every frame."""

    FRAMES = [
        [HOLE],
        [SAY_X, HOLE, SAY_Y],
        [("times", 3, [HOLE, ("say", "again")])],
        [("set", "c", 3), HOLE, ("less", "c", 3, [("say", "low")], [("less", "c", 4, [("say", "as")], [])])],
        [("catch", "w", [], [HOLE, ("say", "in")], [("say", "w")]), ("less", "c", 1, [("say", "low")], [])],
        [("catch", "v", ["c"], [("catch", "w", ["c"], [HOLE, ("fault", "w")], [("say", "w")])], [("say", "v")])],
        [("last", [HOLE], [("say", "last"), ("add", "c", 1)]), ("less", "c", 5, [("say", "low")], [])],
        [("last", [SAY_X], [HOLE])],
        [("either", [], [HOLE, ("say", "in"), ("back",)], [("say", "out"), HOLE])],
        [("either", ["c"], [HOLE, ("back",)], [("say", "out")]), ("below", "c", "d", 0, [("say", "b")], [])],
        [("whether", [], [HOLE], [("say", "yes")], [("say", "no")]), ("less", "c", 2, [("say", "low")], [])],
        [("whether", ["c", "d"], [("back",)], [], [HOLE])],
        [("each", ["c"], [HOLE], [("say", "one"), ("less", "c", 4, [("say", "low")], [])]), ("say", "end")],
        [("each", [], [("either", [], [], [])], [HOLE])],
        [("catch", "w", [], [("catch", "v", [], [
            ("either", [], [HOLE, ("add", "n", 1), ("less", "n", 4, [("set", "c", 2), ("back",)], [("say", "four")])],
             [("say", "none")])], [("say", "v")])], [("say", "w")])],
        [("set", "c", 8), HOLE, ("say", "s"), ("less", "c", 9, [("add", "m", 1), ("less", "m", 3, [("back",)], [])],
                                             [("say", "t")])],
    ]

    def test_in_frames(self):
        for one, other in SAME:
            for frame in self.FRAMES:
                with self.subTest(one=one, other=other, frame=frame):
                    for c in (-1, 0, 1, 2, 3, 7, 8, BIG):
                        for d in (0, 2):
                            tales = []
                            for steps in (one, other):
                                run = Run(filled(Part(frame), Part(steps)), {"c": c, "d": d, "a": d, "b": c})
                                tales.append((run.answer(), run.said()))
                            self.assertEqual(tales[0], tales[1])


if __name__ == "__main__":
    unittest.main()

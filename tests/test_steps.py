"""[9]: what each step does, alone and within the others."""

import unittest

from heldback.parts import Part
from heldback.runs import Run
from samples import BIG, ends_of, told, words_of

ANSWER = ("answer",)
NONE = ("none",)


def say(*words):
    return [("say", word) for word in words]


class TestPlainSteps(unittest.TestCase):

    def test_nothing(self):
        self.assertEqual(told([]), [(ANSWER, [], {}), (NONE, [], {})])

    def test_say(self):
        self.assertEqual(told(say("a", "b", "a")), [(ANSWER, ["a", "b", "a"], {}), (NONE, [], {})])

    def test_set(self):
        for n in (0, 1, -7, BIG, -BIG):
            self.assertEqual(told([("set", "c", n)], {"c": 5}), [(ANSWER, [], {"c": n}), (NONE, [], {"c": n})])

    def test_add(self):
        for n in (0, 1, -7, BIG, -BIG):
            self.assertEqual(told([("add", "c", n)], {"c": 5})[0], (ANSWER, [], {"c": 5 + n}))
            self.assertEqual(told([("add", "c", n), ("add", "c", n)])[0], (ANSWER, [], {"c": 2 * n}))

    def test_copy(self):
        for n in (0, 1, -7, BIG, -BIG):
            self.assertEqual(told([("copy", "c", "d", n)], {"c": 5, "d": 8})[0], (ANSWER, [], {"c": 8 + n, "d": 8}))
            self.assertEqual(told([("copy", "c", "c", n)], {"c": 5})[0], (ANSWER, [], {"c": 5 + n}))
            self.assertEqual(told([("copy", "c", "d", n)])[0], (ANSWER, [], {"c": n, "d": 0}))

    def test_less(self):
        for n in (0, 3, -3, BIG, -BIG):
            step = ("less", "c", n, say("yes"), say("no"))
            for value, word in [(n - 1, "yes"), (n, "no"), (n + 1, "no")]:
                self.assertEqual(words_of([step] + say("on"), {"c": value}), word + " on")
        self.assertEqual(words_of([("less", "c", 1, [], say("no"))]), "")
        self.assertEqual(words_of([("less", "c", 0, say("yes"), [])]), "")

    def test_below(self):
        for n in (0, 3, -3, BIG, -BIG):
            step = ("below", "c", "d", n, say("yes"), say("no"))
            for d in (0, 10, -10, BIG):
                for value, word in [(d + n - 1, "yes"), (d + n, "no"), (d + n + 1, "no")]:
                    self.assertEqual(words_of([step] + say("on"), {"c": value, "d": d}), word + " on")
        for n, word in [(0, "no"), (1, "yes"), (-1, "no")]:
            self.assertEqual(words_of([("below", "c", "c", n, say("yes"), say("no"))], {"c": 9}), word)

    def test_times(self):
        for n in (0, 1, 2, 3):
            steps = [("times", n, [("add", "c", 1)] + say("a", "b"))] + say("on")
            self.assertEqual(told(steps)[0], (ANSWER, ["a", "b"] * n + ["on"], {"c": n}))
        nested = [("times", 3, [("times", 3, [("times", 2, [("add", "c", 1)]), ("add", "d", 1)])])]
        self.assertEqual(told(nested)[0][2], {"c": 18, "d": 9})

    def test_hole(self):
        self.assertEqual(told([("hole",)] + say("a") + [("hole",)]), [(ANSWER, ["a"], {}), (NONE, [], {})])

    def test_long_numbers(self):
        steps = [("set", "c", BIG), ("times", 3, [("add", "c", BIG)]), ("copy", "d", "c", -BIG), ("add", "c", -1)]
        self.assertEqual(told(steps)[0][2], {"c": 4 * BIG - 1, "d": 3 * BIG})

    def test_deep_times(self):
        steps = [("add", "c", 1)]
        for _ in range(9):
            steps = [("times", 3, steps)]
        self.assertEqual(told(steps)[0][2], {"c": 3 ** 9})


class TestCatch(unittest.TestCase):

    def test_no_fault(self):
        steps = [("catch", "w", ["c"], [("set", "c", 1)] + say("a"), say("caught"))] + say("on")
        self.assertEqual(told(steps), [(ANSWER, ["a", "on"], {"c": 1}), (NONE, [], {"c": 1})])

    def test_fault(self):
        body = [("set", "c", 1), ("set", "d", 1)] + say("a") + [("fault", "w")] + say("b")
        steps = [("catch", "w", ["c"], body, say("caught"))] + say("on")
        self.assertEqual(told(steps, {"c": 5, "d": 6})[0], (ANSWER, ["a", "caught", "on"], {"c": 5, "d": 1}))

    def test_values_of_the_beginning(self):
        body = [("set", "c", 8), ("set", "d", 8), ("fault", "w")]
        steps = [("set", "c", 7), ("catch", "w", ["c"], body, [("copy", "e", "c", 0)])]
        self.assertEqual(told(steps)[0][2], {"c": 7, "d": 8, "e": 7})

    def test_held_cells_are_put_back_before_then(self):
        steps = [("catch", "w", ["c"], [("set", "c", 9), ("fault", "w")], [("less", "c", 5, say("old"), say("new"))])]
        self.assertEqual(words_of(steps), "old")

    def test_several_held(self):
        body = [("set", "a", 1), ("set", "b", 2), ("set", "c", 3), ("fault", "w")]
        for held, cells in [([], {"a": 1, "b": 2, "c": 3}), (["b"], {"a": 1, "b": 0, "c": 3}),
                            (["c", "a"], {"a": 0, "b": 2, "c": 0}), (["a", "b", "c"], {"a": 0, "b": 0, "c": 0})]:
            self.assertEqual(told([("catch", "w", held, body, [])])[0][2], cells)

    def test_uncaught(self):
        for steps in ([("fault", "w")], [("catch", "v", ["c"], [("fault", "w")], say("no"))],
                      [("catch", "w", [], [], say("no")), ("fault", "w")],
                      [("catch", "w", [], [("fault", "w")], [("fault", "w")])]):
            steps = [("set", "c", 3)] + say("a") + steps + say("b")
            self.assertEqual(told(steps), [(("fault", "w"), ["a"], {"c": 3})])

    def test_an_uncaught_fault_puts_nothing_back_and_closes_the_run(self):
        steps = [("either", ["c"], [("set", "c", 1), ("fault", "w")], say("other"))]
        self.assertEqual(told(steps), [(("fault", "w"), [], {"c": 1})])

    def test_a_fault_goes_through_other_catches(self):
        inner = ("catch", "v", ["d"], [("set", "c", 1), ("set", "d", 1), ("fault", "w")], say("inner"))
        steps = [("catch", "w", ["c"], [inner] + say("no"), say("outer"))] + say("on")
        self.assertEqual(told(steps)[0], (ANSWER, ["outer", "on"], {"c": 0, "d": 1}))

    def test_the_first_of_equal_catches(self):
        inner = ("catch", "w", ["c"], [("set", "c", 2), ("set", "d", 2), ("fault", "w")], say("inner"))
        steps = [("catch", "w", ["c", "d"], [("set", "c", 1), inner], say("outer"))]
        self.assertEqual(told(steps)[0], (ANSWER, ["inner"], {"c": 1, "d": 2}))

    def test_a_fault_in_then_goes_further_out(self):
        inner = ("catch", "w", ["c"], [("set", "c", 2), ("fault", "w")], [("set", "c", 3), ("fault", "w")])
        steps = [("catch", "w", ["c"], [inner], say("outer"))]
        self.assertEqual(told(steps)[0], (ANSWER, ["outer"], {"c": 0}))

    def test_values_of_each_mark(self):
        inner = ("catch", "v", ["c"], [("set", "c", 2), ("fault", "v")], [("copy", "d", "c", 0), ("fault", "w")])
        steps = [("catch", "w", ["c"], [("set", "c", 1), inner], [("copy", "e", "c", 0)])]
        self.assertEqual(told(steps)[0][2], {"c": 0, "d": 1, "e": 0})

    def test_in_times(self):
        body = [("add", "c", 1), ("add", "d", 1), ("fault", "w")]
        steps = [("times", 3, [("catch", "w", ["c"], body, [("add", "c", 10)])])]
        self.assertEqual(told(steps)[0][2], {"c": 30, "d": 3})

    def test_a_fault_closes_choices(self):
        body = [("either", [], say("a"), say("b")), ("fault", "w")]
        steps = [("either", [], say("x"), say("y")), ("catch", "w", [], body, say("caught"))]
        self.assertEqual(told(steps), [
            (ANSWER, ["x", "a", "caught"], {}), (ANSWER, ["y", "a", "caught"], {}), (NONE, [], {})])

    def test_a_catch_alone_closes_none(self):
        steps = [("catch", "w", [], [("either", [], say("a"), say("b"))], say("caught"))]
        self.assertEqual(told(steps), [(ANSWER, ["a"], {}), (ANSWER, ["b"], {}), (NONE, [], {})])


class TestLast(unittest.TestCase):

    def test_at_its_end(self):
        self.assertEqual(words_of([("last", say("a"), say("then"))] + say("on")), "a then on")
        self.assertEqual(words_of([("last", [], say("then"))] + say("on")), "then on")

    def test_at_a_fault(self):
        steps = [("last", say("a") + [("fault", "w")] + say("b"), say("then"))] + say("on")
        self.assertEqual(told(steps), [(("fault", "w"), ["a", "then"], {})])
        steps = [("catch", "w", [], steps, say("caught"))] + say("out")
        self.assertEqual(words_of(steps), "a then caught out")

    def test_through_several(self):
        steps = [("fault", "w")]
        for word in ("a", "b", "c"):
            steps = [("catch", "v", [], [("last", steps, say(word))], say("no"))]
        self.assertEqual(words_of([("catch", "w", [], steps, say("caught"))]), "a b c caught")

    def test_cells_at_a_fault(self):
        body = [("set", "c", 1), ("last", [("set", "c", 2), ("fault", "w")], [("copy", "d", "c", 0), ("set", "c", 3)])]
        steps = [("catch", "w", ["c"], body, [])]
        self.assertEqual(told(steps)[0][2], {"c": 0, "d": 2})
        self.assertEqual(told([("catch", "w", [], body, [])])[0][2], {"c": 3, "d": 2})

    def test_with_a_fault_of_its_own(self):
        inner = ("last", [("fault", "v")], say("then") + [("fault", "w")] + say("no"))
        steps = [("catch", "w", [], [("catch", "v", [], [inner], say("first"))], say("second"))]
        self.assertEqual(words_of(steps), "then second")
        inner = ("last", say("a"), say("then") + [("fault", "w")])
        self.assertEqual(words_of([("catch", "w", [], [inner], say("caught"))]), "a then caught")

    def test_a_fault_caught_within_it(self):
        then = say("then") + [("catch", "v", [], [("fault", "v")], say("within"))] + say("still")
        inner = ("last", [("fault", "w")], then)
        self.assertEqual(words_of([("catch", "w", [], [inner], say("caught"))]), "then within still caught")

    def test_its_fault_is_not_its_own(self):
        then = [("less", "c", 3, [("add", "c", 1), ("fault", "w")], [])] + say("no")
        self.assertEqual(told([("last", [("fault", "w")], then)]), [(("fault", "w"), [], {"c": 1})])

    def test_with_a_back_of_its_own(self):
        inner = ("last", [("either", [], say("a"), say("b"))] + [("fault", "w")], say("then") + [("back",)])
        steps = [("either", ["c"], [("set", "c", 1), ("catch", "w", ["c"], [inner], say("no"))], say("other"))]
        self.assertEqual(told(steps)[0], (ANSWER, ["a", "then", "other"], {"c": 0}))
        inner = ("last", [("either", [], say("a"), say("b"))], say("then") + [("back",)])
        self.assertEqual(told([inner]), [(NONE, ["a", "then", "b", "then"], {})])

    def test_with_a_choice_of_its_own(self):
        inner = ("last", [("fault", "w")], [("either", ["c"], [("set", "c", 1)] + say("a"), say("b"))])
        steps = [("catch", "w", [], [inner], say("caught")), ("back",)]
        self.assertEqual(told(steps), [(NONE, ["a", "caught"], {"c": 1})])
        steps = [("catch", "w", [], [inner, ("hole",)], say("caught"))]
        self.assertEqual(told(steps), [(ANSWER, ["a", "caught"], {"c": 1}), (NONE, [], {"c": 1})])

    def test_going_back_within_it_goes_on_with_the_same_fault(self):
        then = [("either", [], say("a") + [("back",)], say("b"))]
        self.assertEqual(told([("last", [("fault", "w")], then)]), [(("fault", "w"), ["a", "b"], {})])

    def test_a_choice_at_its_end_stays(self):
        inner = ("last", say("x"), [("either", [], say("a"), say("b"))])
        self.assertEqual(told([inner] + say("on")), [
            (ANSWER, ["x", "a", "on"], {}), (ANSWER, ["b", "on"], {}), (NONE, [], {})])

    def test_choices_of_its_body_stay_open_at_its_end(self):
        inner = ("last", [("either", [], say("a"), say("b"))], say("then"))
        self.assertEqual(told([inner] + say("on")), [
            (ANSWER, ["a", "then", "on"], {}), (ANSWER, ["b", "then", "on"], {}), (NONE, [], {})])

    def test_choices_of_its_body_are_closed_at_a_fault(self):
        inner = ("last", [("either", [], say("a"), say("b")), ("fault", "w")], [("back",)])
        self.assertEqual(told([("either", [], say("x"), say("y")), inner]), [(NONE, ["x", "a", "y", "a"], {})])

    def test_back_does_not_do_then(self):
        steps = [("either", [], [("last", [("back",)], say("then"))], say("b"))]
        self.assertEqual(words_of(steps), "b")


class TestEither(unittest.TestCase):

    def test_two_answers(self):
        steps = [("either", ["c"], [("set", "c", 1), ("set", "d", 1)] + say("a"), say("b"))] + say("on")
        self.assertEqual(told(steps), [
            (ANSWER, ["a", "on"], {"c": 1, "d": 1}), (ANSWER, ["b", "on"], {"c": 0, "d": 1}),
            (NONE, [], {"c": 0, "d": 1})])

    def test_back(self):
        body = [("set", "c", 1), ("set", "d", 1)] + say("a") + [("back",)] + say("no")
        steps = [("either", ["c"], body, say("b"))]
        self.assertEqual(told(steps, {"c": 4}), [(ANSWER, ["a", "b"], {"c": 4, "d": 1}), (NONE, [], {"c": 4, "d": 1})])

    def test_back_alone(self):
        self.assertEqual(told([("set", "c", 1)] + say("a") + [("back",)] + say("b")), [(NONE, ["a"], {"c": 1})])

    def test_back_in_other_goes_further_out(self):
        inner = ("either", ["d"], [("set", "d", 1), ("back",)], say("a") + [("back",)])
        self.assertEqual(words_of([("either", [], [inner], say("b"))]), "a b")
        self.assertEqual(told([inner]), [(NONE, ["a"], {"d": 0})])

    def test_the_choice_opened_last(self):
        steps = [("either", [], say("a"), say("b")), ("either", [], say("x"), say("y"))]
        self.assertEqual([words for _, words, _ in told(steps)], [["a", "x"], ["y"], ["b", "x"], ["y"], []])

    def test_the_rest_is_done_again(self):
        steps = [("either", [], [], [])] * 3 + [("add", "c", 1)]
        self.assertEqual([cells["c"] for _, _, cells in told(steps)], [1, 2, 3, 4, 5, 6, 7, 8, 8])

    def test_held_at_the_values_of_its_own_beginning(self):
        inner = ("either", ["c"], [("add", "c", 10)], [("add", "c", 100)])
        steps = [("either", ["c"], [("add", "c", 1)], [("add", "c", 2)]), inner]
        self.assertEqual([cells["c"] for _, _, cells in told(steps)], [11, 101, 12, 102, 102])

    def test_held_in_several_choices(self):
        inner = ("either", ["d"], [("add", "d", 10)], [("add", "d", 100)])
        steps = [("either", ["c"], [("add", "c", 1), ("add", "d", 1)], [("add", "c", 2)]), inner]
        self.assertEqual([(cells["c"], cells["d"]) for _, _, cells in told(steps)], [
            (1, 11), (1, 101), (2, 111), (2, 201), (2, 201)])

    def test_words_stay_said(self):
        run = Run(Part([("either", ["c"], say("a") + [("back",)], say("b"))]))
        ends_of(run)
        self.assertEqual(run.said(), ["a", "b"])

    def test_in_times(self):
        steps = [("times", 2, [("either", ["c"], [("add", "c", 1)], [("add", "c", 3)])])]
        self.assertEqual([cells["c"] for _, _, cells in told(steps)], [2, 4, 4, 6, 6])

    def test_it_is_resumed_within_its_catch(self):
        body = [("set", "c", 5), ("either", ["d"], [("set", "d", 1)], [("set", "c", 9), ("fault", "w")])]
        steps = [("set", "c", 2), ("catch", "w", ["c"], body, say("caught")), ("set", "c", 7)] + say("on")
        self.assertEqual(told(steps), [
            (ANSWER, ["on"], {"c": 7, "d": 1}), (ANSWER, ["caught", "on"], {"c": 7, "d": 0}),
            (NONE, [], {"c": 7, "d": 0})])
        steps = [("set", "c", 2), ("catch", "w", ["c"], body, [("back",)]), ("set", "c", 7)]
        self.assertEqual(told(steps)[-1], (NONE, [], {"c": 2, "d": 0}))

    def test_it_is_resumed_outside_of_a_catch_that_is_over(self):
        steps = [("either", [], say("a"), [("fault", "w")]), ("catch", "w", [], [], say("no"))]
        self.assertEqual(told(steps), [(ANSWER, ["a"], {}), (("fault", "w"), [], {})])

    def test_it_is_resumed_within_its_last(self):
        steps = [("last", [("either", [], say("a"), [("fault", "w")])], say("then"))] + say("on")
        self.assertEqual(told(steps), [(ANSWER, ["a", "then", "on"], {}), (("fault", "w"), ["then"], {})])

    def test_a_catch_that_is_resumed_keeps_its_number_of_choices(self):
        choice = ("either", [], say("a"), [("either", [], say("b"), say("c")), ("fault", "w")])
        steps = [("either", [], say("x"), say("y")), ("catch", "w", [], [choice], say("caught"))]
        self.assertEqual([words for _, words, _ in told(steps)], [
            ["x", "a"], ["b", "caught"], ["y", "a"], ["b", "caught"], []])

    def test_a_later_choice_is_resumed_first(self):
        body = [("either", [], say("a"), say("b"))]
        steps = [("catch", "w", [], body, []), ("either", [], say("x"), [("fault", "w")])]
        self.assertEqual(told(steps), [(ANSWER, ["a", "x"], {}), (("fault", "w"), [], {})])


class TestWhether(unittest.TestCase):

    def test_an_answer(self):
        steps = [("whether", ["c"], [("set", "c", 1), ("set", "d", 1)] + say("a"), say("then"), say("other"))]
        self.assertEqual(told(steps + say("on")), [
            (ANSWER, ["a", "then", "on"], {"c": 1, "d": 1}), (NONE, [], {"c": 1, "d": 1})])

    def test_no_answer(self):
        body = [("set", "c", 1), ("set", "d", 1)] + say("a") + [("back",)]
        steps = [("whether", ["c"], body, say("then"), say("other"))]
        self.assertEqual(told(steps + say("on"), {"c": 3}), [
            (ANSWER, ["a", "other", "on"], {"c": 3, "d": 1}), (NONE, [], {"c": 3, "d": 1})])

    def test_choices_of_the_body_are_closed(self):
        body = [("either", [], say("a"), say("b"))]
        steps = [("whether", [], body, say("then"), say("other"))]
        self.assertEqual(told(steps), [(ANSWER, ["a", "then"], {}), (NONE, [], {})])
        self.assertEqual(words_of([("whether", [], body, say("then") + [("back",)], say("other"))]), "a then")

    def test_choices_of_the_body_are_tried(self):
        body = [("either", ["c"], [("set", "c", 1)] + say("a") + [("back",)], say("b"))]
        self.assertEqual(words_of([("whether", [], body, say("then"), say("other"))]), "a b then")
        body = [("either", ["c"], [("set", "c", 1)] + say("a") + [("back",)], say("b") + [("back",)])]
        self.assertEqual(words_of([("whether", [], body, say("then"), say("other"))]), "a b other")

    def test_choices_that_were_open_before_stay(self):
        steps = [("either", [], say("x"), say("y")), ("whether", [], [("either", [], [], [])], say("then"), say("no"))]
        self.assertEqual(told(steps), [(ANSWER, ["x", "then"], {}), (ANSWER, ["y", "then"], {}), (NONE, [], {})])

    def test_choices_of_then_and_other_stay(self):
        two = [("either", [], say("a"), say("b"))]
        self.assertEqual([words for _, words, _ in told([("whether", [], [], two, [])])], [["a"], ["b"], []])
        self.assertEqual([words for _, words, _ in told([("whether", [], [("back",)], [], two)])], [["a"], ["b"], []])

    def test_back_in_then_and_other_goes_further_out(self):
        for body in ([], [("back",)]):
            inner = ("whether", ["c"], body, say("then") + [("back",)], say("other") + [("back",)])
            words = "then" if body == [] else "other"
            self.assertEqual(words_of([("either", [], [inner], say("out"))]), words + " out")

    def test_a_fault_leaves_it(self):
        inner = ("whether", ["c"], [("set", "c", 1), ("fault", "w")], say("then"), say("other"))
        self.assertEqual(told([inner]), [(("fault", "w"), [], {"c": 1})])
        self.assertEqual(told([("catch", "w", [], [inner], say("caught"))]), [
            (ANSWER, ["caught"], {"c": 1}), (NONE, [], {"c": 1})])

    def test_a_fault_in_then(self):
        inner = ("whether", ["c"], [("set", "c", 1)], say("then") + [("fault", "w")], say("other"))
        self.assertEqual(told([("catch", "w", ["d"], [inner], say("caught"))]), [
            (ANSWER, ["then", "caught"], {"c": 1, "d": 0}), (NONE, [], {"c": 1, "d": 0})])

    def test_a_catch_around_its_body_is_over(self):
        inner = ("whether", [], [("catch", "w", [], [], say("no"))], [("fault", "w")], [])
        self.assertEqual(told([inner]), [(("fault", "w"), [], {})])

    def test_held_at_the_values_of_its_own_beginning(self):
        inner = ("whether", ["c"], [("set", "c", 2), ("back",)], [], [("copy", "d", "c", 0)])
        steps = [("either", ["c"], [("set", "c", 1), inner], [("copy", "e", "c", 0)])]
        self.assertEqual([cells for _, _, cells in told(steps)], [
            {"c": 1, "d": 1, "e": 0}, {"c": 0, "d": 1, "e": 0}, {"c": 0, "d": 1, "e": 0}])

    def test_within_each_other(self):
        inner = ("whether", [], [("back",)], say("no"), say("a"))
        self.assertEqual(words_of([("whether", [], [inner], say("then"), say("other"))]), "a then")
        inner = ("whether", [], say("a"), [("back",)], say("no"))
        self.assertEqual(words_of([("whether", [], [inner], say("then"), say("other"))]), "a other")


class TestEach(unittest.TestCase):

    def test_no_answer(self):
        steps = [("each", ["c"], [("set", "c", 1), ("set", "d", 1), ("back",)], say("then"))] + say("on")
        self.assertEqual(told(steps, {"c": 4}), [(ANSWER, ["on"], {"c": 4, "d": 1}), (NONE, [], {"c": 4, "d": 1})])

    def test_one_answer(self):
        steps = [("each", ["c"], [("set", "c", 1), ("set", "d", 1)] + say("a"), say("then"))] + say("on")
        self.assertEqual(told(steps), [(ANSWER, ["a", "then", "on"], {"c": 0, "d": 1}), (NONE, [], {"c": 0, "d": 1})])

    def test_several_answers(self):
        body = [("either", ["c"], [("add", "c", 1)] + say("a"), [("add", "c", 2)] + say("b"))]
        then = [("below", "c", "d", 0, [], [("copy", "d", "c", 0)])] + say("then")
        steps = [("each", ["c"], body, then)] + say("on")
        self.assertEqual(told(steps), [
            (ANSWER, ["a", "then", "b", "then", "on"], {"c": 0, "d": 2}), (NONE, [], {"c": 0, "d": 2})])

    def test_then_without_an_answer(self):
        body = [("either", [], say("a"), say("b"))]
        steps = [("each", ["c"], body, [("add", "c", 1)] + say("then") + [("back",)] + say("no"))] + say("on")
        self.assertEqual(words_of(steps), "a then b then on")

    def test_then_with_several_answers(self):
        body = [("either", [], say("a"), say("b"))]
        steps = [("each", [], body, [("either", [], say("x"), say("y"))])] + say("on")
        self.assertEqual(told(steps), [(ANSWER, ["a", "x", "b", "x", "on"], {}), (NONE, [], {})])

    def test_what_then_does_stays_but_for_held_cells(self):
        body = [("either", ["c"], [("add", "c", 1)], [("add", "c", 2)])]
        steps = [("each", ["c", "e"], body, [("add", "c", 10), ("add", "d", 10), ("add", "e", 1)])]
        self.assertEqual(told(steps)[0][2], {"c": 0, "d": 20, "e": 0})
        steps = [("each", [], body, [("add", "c", 10), ("add", "d", 10), ("add", "e", 1)])]
        self.assertEqual(told(steps)[0][2], {"c": 2 + 10, "d": 20, "e": 2})

    def test_a_fault_leaves_it(self):
        body = [("either", [], say("a"), say("b")), ("set", "c", 1)]
        inner = ("each", ["c"], body, say("then") + [("fault", "w")])
        self.assertEqual(told([("catch", "w", [], [inner], say("caught"))]), [
            (ANSWER, ["a", "then", "caught"], {"c": 1}), (NONE, [], {"c": 1})])
        self.assertEqual(told([inner]), [(("fault", "w"), ["a", "then"], {"c": 1})])

    def test_choices_that_were_open_before_stay(self):
        steps = [("either", [], say("x"), say("y")), ("each", [], say("a"), say("then")), ("back",)]
        self.assertEqual(told(steps), [(NONE, ["x", "a", "then", "y", "a", "then"], {})])

    def test_within_each_other(self):
        two = [("either", [], say("a"), say("b"))]
        steps = [("each", [], two, [("each", [], [("either", [], say("x"), say("y"))], [("add", "c", 1)])])]
        self.assertEqual(told(steps)[0], (ANSWER, ["a", "x", "y", "b", "x", "y"], {"c": 4}))


# Each way to put a list of steps into a step, with what is done besides: so that each list is done just once.
PLACES = {
    "less yes": lambda steps: ("less", "z", 1, steps, say("no")),
    "less no": lambda steps: ("less", "z", 0, say("no"), steps),
    "below yes": lambda steps: ("below", "z", "z", 1, steps, say("no")),
    "below no": lambda steps: ("below", "z", "z", 0, say("no"), steps),
    "times": lambda steps: ("times", 1, steps),
    "catch body": lambda steps: ("catch", "zz", ["z"], steps, say("no")),
    "catch then": lambda steps: ("catch", "zz", ["z"], [("fault", "zz")], steps),
    "last body": lambda steps: ("last", steps, []),
    "last then": lambda steps: ("last", [], steps),
    "either body": lambda steps: ("either", ["z"], steps, [("back",)]),
    "either other": lambda steps: ("either", ["z"], [("back",)], steps),
    "whether then": lambda steps: ("whether", ["z"], [], steps, say("no")),
    "whether other": lambda steps: ("whether", ["z"], [("back",)], say("no"), steps),
}
ONCE = {
    "whether body": lambda steps: ("whether", ["z"], steps, [], [("back",)]),
}

# Steps of each kind, with what they tell alone: (words, cells c and d) for each answer.
INNER = {
    "say": (say("a"), [("a", 0, 0)]),
    "set": ([("set", "c", 4)], [("", 4, 0)]),
    "add": ([("add", "c", 4)], [("", 4, 0)]),
    "copy": ([("copy", "c", "d", 4)], [("", 4, 0)]),
    "less": ([("less", "c", 1, say("a"), say("b"))], [("a", 0, 0)]),
    "below": ([("below", "c", "d", 0, say("a"), say("b"))], [("b", 0, 0)]),
    "times": ([("times", 3, say("a") + [("add", "c", 1)])], [("a a a", 3, 0)]),
    "hole": ([("hole",)], [("", 0, 0)]),
    "catch": ([("catch", "w", ["c"], [("add", "c", 1), ("add", "d", 1), ("fault", "w")], say("a"))], [("a", 0, 1)]),
    "last": ([("last", [("add", "c", 1)], [("copy", "d", "c", 1)])], [("", 1, 2)]),
    "back": ([("add", "c", 1), ("back",)], []),
    "either": ([("either", ["c"], [("add", "c", 1), ("add", "d", 1)], say("a"))], [("", 1, 1), ("a", 0, 1)]),
    "whether": ([("whether", ["c"], [("add", "c", 1), ("add", "d", 1), ("back",)], [], say("a"))], [("a", 0, 1)]),
    "whether then": ([("whether", ["c"], [("add", "c", 1)], [("either", [], say("a"), say("b"))], [])],
                     [("a", 1, 0), ("b", 1, 0)]),
    "each": ([("each", ["c"], [("either", [], [], []), ("add", "c", 1)], say("a") + [("add", "d", 1)])],
             [("a a", 0, 2)]),
}


def heard(steps):
    """The words, and c and d, at each answer; and the last end."""
    tale = told(steps, {"c": 0, "d": 0})
    return [(" ".join(words), cells["c"], cells["d"]) for end, words, cells in tale if end == ANSWER], tale[-1][0]


class TestWithinEachOther(unittest.TestCase):

    def test_each_kind_alone(self):
        for kind, (steps, tale) in INNER.items():
            self.assertEqual(heard(steps), (tale, NONE), kind)

    def test_each_kind_in_each_place(self):
        for place, around in PLACES.items():
            for kind, (steps, tale) in INNER.items():
                with self.subTest(place=place, kind=kind):
                    self.assertEqual(heard([around(steps)]), (tale, NONE))

    def test_each_kind_in_two_places(self):
        for place, around in PLACES.items():
            for outer, wide in PLACES.items():
                for kind, (steps, tale) in INNER.items():
                    with self.subTest(outer=outer, place=place, kind=kind):
                        self.assertEqual(heard([wide([("hole",), around(steps)])]), (tale, NONE))

    def test_the_first_answer_only(self):
        for kind, (steps, tale) in INNER.items():
            self.assertEqual(heard([ONCE["whether body"](steps)]), (tale[:1], NONE), kind)

    def test_a_fault_goes_through_each_place(self):
        fault = say("a") + [("add", "c", 1), ("fault", "v")] + say("no")
        around = dict(PLACES, **ONCE)
        around["each body"] = lambda steps: ("each", ["c"], steps, say("no"))
        around["each then"] = lambda steps: ("each", ["c"], [], steps)
        for place in around:
            inner = around[place](fault)
            self.assertEqual(told([inner])[-1][0], ("fault", "v"), place)
            for held, c in [([], 1), (["c"], 0)]:
                steps = [("catch", "v", held, [inner] + say("no"), say("caught"))] + say("on")
                self.assertEqual(heard(steps), ([("a caught on", c, 0)], NONE), place)

    def test_each_in_each_place(self):
        for kind, (steps, tale) in INNER.items():
            for place, around in PLACES.items():
                said = [word for words, _, _ in tale for word in words.split()]
                held = told([("each", ["c", "d"], [around(steps)], say("then"))])
                self.assertEqual(held[0][0], ANSWER)
                self.assertEqual(held[0][1].count("then"), len(tale), (kind, place))
                self.assertEqual([word for word in held[0][1] if word != "then"], said)
                self.assertEqual((held[0][2]["c"], held[0][2]["d"]) if "d" in held[0][2] else (0, 0), (0, 0))


if __name__ == "__main__":
    unittest.main()

"""[17], [18]: wishes of each kind, steps that no use does, and the greatest number of answers."""

import copy
import unittest

from heldback.errors import BadWish
from heldback.parts import Part
from heldback.uses import outcomes
from heldback.wishes import dead, fulfilled, most_answers
from samples import ANYTHING, BAD_INTEGERS, BAD_NAMES, BIG, NESTED, all_paths, listed, steps_of_each_kind
from wished import fewest_dicts, fulfils, with_own_steps

ANSWER, NONE = ("answer",), ("none",)
SAY_X, SAY_Y, BACK = ("say", "x"), ("say", "y"), ("back",)


def choice(body, other, held=()):
    return ("either", list(held), list(body), list(other))


def answers(many):
    """Steps that have so many answers."""
    return [choice([], answers(many - 1) if many > 2 else [])] if many > 1 else []


def answers_ahead(many, last):
    """Steps that have so many answers, and then do the last ones."""
    return [choice([], answers_ahead(many - 1, last))] if many else list(last)


class WishTest(unittest.TestCase):

    def check(self, steps, wish, many):
        """The wish is fulfilled by a use with so many dicts, and by none with fewer; None: by no use."""
        steps = with_own_steps(steps)
        self.assertEqual(fewest_dicts(steps, wish), many)
        for given in (wish, listed(wish)):
            use = fulfilled(Part(steps), given)
            if many is None:
                self.assertIsNone(use)
            else:
                self.assertIs(type(use), list)
                self.assertEqual(len(use), many)
                self.assertTrue(all(type(cells) is dict for cells in use))
                self.assertEqual(len(outcomes(Part(steps), use)), many)
                self.assertTrue(fulfils(steps, use, wish), use)


class TestSays(WishTest):

    def test_at_the_first_a_later_and_no_outcome(self):
        for many in range(5):
            self.check(answers_ahead(many, [SAY_X]), ("says", "x"), many + 1)
            self.check(answers_ahead(many, [SAY_X, BACK]), ("says", "x"), many + 1)
            self.check(answers_ahead(many, [SAY_X, ("fault", "w")]), ("says", "x"), many + 1)
            self.check(answers_ahead(many, [BACK, SAY_X]), ("says", "x"), None)

    def test_a_word_that_the_part_does_not_say(self):
        self.check([], ("says", "x"), None)
        self.check([SAY_X], ("says", "xx"), None)
        self.check([("fault", "w")], ("says", "w"), None)
        self.check([("set", "c", 1)], ("says", "c"), None)
        self.check([SAY_X], ("says", "does"), None)

    def test_words_since_the_outcome_before(self):
        # The word was said ahead of the first answer; so the first outcome has it.
        self.check([SAY_X, choice([], [])], ("says", "x"), 1)
        self.check([choice([SAY_X], [SAY_Y])], ("says", "y"), 2)

    def test_the_soonest_of_several_ways(self):
        steps = [("less", "c", 5, answers_ahead(2, [SAY_X]), answers_ahead(1, [SAY_X]))]
        self.check(steps, ("says", "x"), 2)
        self.check([("less", "c", 5, answers_ahead(1, [SAY_X]), answers_ahead(2, [SAY_X]))], ("says", "x"), 2)
        self.check([("less", "c", 5, answers_ahead(3, [SAY_X]), [BACK, SAY_X])], ("says", "x"), 4)
        # Far from 0, between two numbers.
        self.check([("less", "c", BIG, [("less", "c", BIG - 1, [], [SAY_X])], [])], ("says", "x"), 1)
        self.check([("less", "c", -BIG, [SAY_X], [])], ("says", "x"), 1)

    def test_tests_that_shut_ways(self):
        self.check([("less", "c", 3, [("less", "c", 3, [], [SAY_X])], [])], ("says", "x"), None)
        self.check([("less", "c", 3, [("less", "c", 2, [], [SAY_X])], [])], ("says", "x"), 1)
        self.check([("below", "a", "b", 0, [("below", "b", "a", 0, [SAY_X], [])], [])], ("says", "x"), None)
        self.check([("below", "a", "b", 0, [("below", "b", "c", 0, [("below", "c", "a", 0, [SAY_X], [])], [])], [])],
                   ("says", "x"), None)
        self.check([("below", "a", "b", 0, [("below", "b", "c", 0, [("below", "c", "a", 5, [SAY_X], [])], [])], [])],
                   ("says", "x"), 1)
        self.check([("set", "c", 1), ("less", "c", 1, [SAY_X], [SAY_Y])], ("says", "x"), None)

    def test_comparisons_that_nobody_sees(self):
        # Both sides of the first test come to the same outcome; still it binds the cell.
        for far in ([], [("less", "d", 0, [], [])]):
            self.check([("less", "c", 3, [], [BACK]), choice([], [("less", "c", 3, [], [SAY_X])], ["c"]), *far],
                       ("says", "x"), None)
        self.check([("less", "c", 3, [], [("fault", "w")]), choice([], [("less", "c", 3, [], [SAY_X])])],
                   ("says", "x"), 2)
        self.check([("less", "c", 3, [("set", "d", 1)], [("set", "d", 1)]),
                    choice([], [("less", "c", 3, [], [SAY_X])], ["c"])], ("says", "x"), 2)
        # Ahead of a catch that nobody sees.
        self.check([("catch", "w", ["c"], [("less", "c", 0, [("add", "c", 5), ("fault", "w")], [BACK])], []),
                    ("less", "c", 0, [], [SAY_X])], ("says", "x"), None)
        self.check([("catch", "w", [], [("less", "c", 0, [("add", "c", 5), ("fault", "w")], [BACK])], []),
                    ("less", "c", 0, [], [SAY_X])], ("says", "x"), 1)

    def test_cells_that_are_put_back_and_compared_again(self):
        # Behind going back the held cell has the value of the first dict, the other one that of the second.
        for held, many in ((["c"], None), ([], 2), (["d"], 2)):
            self.check([("less", "c", 1, [], [BACK]), choice([], [("less", "c", 1, [], [SAY_X])], held), ("add", "d", 1)],
                       ("says", "x"), many)
        self.check([("less", "c", 1, [choice([], [("less", "c", 1, [], [SAY_X])], ["c"])], [])], ("says", "x"), None)
        self.check([("less", "c", 1, [choice([], [("less", "c", 1, [], [SAY_X])], [])], [])], ("says", "x"), 2)

    def test_cells_that_hold_a_value_since_an_earlier_answer(self):
        # d keeps the value that c had ahead of the first answer.
        steps = [("copy", "d", "c", 1), choice([], [("copy", "e", "d", 1), choice([], [("below", "e", "c", 0, [], [SAY_X])],
                                                                             ["c", "e"])], ["c", "d"])]
        self.check(steps, ("says", "x"), 3)
        self.check([("copy", "d", "c", 1), choice([], [("below", "c", "d", 0, [], [SAY_X])], ["c", "d"])],
                   ("says", "x"), None)
        self.check([("copy", "d", "c", 1), choice([], [("below", "c", "d", 0, [], [SAY_X])], ["d"])], ("says", "x"), 2)


class TestEnds(WishTest):

    def test_each_end(self):
        for many in range(4):
            self.check(answers_ahead(many, []), ("ends", ANSWER), 1)
            self.check(answers_ahead(many, []), ("ends", NONE), many + 2)
            self.check(answers_ahead(many, [BACK]), ("ends", NONE), many + 1)
            self.check(answers_ahead(many, [("fault", "w")]), ("ends", ("fault", "w")), many + 1)
            self.check(answers_ahead(many, [("fault", "w")]), ("ends", ("fault", "v")), None)
            self.check(answers_ahead(many, [("fault", "w")]), ("ends", NONE), None)
        self.check([BACK], ("ends", ANSWER), None)
        self.check([], ("ends", ("fault", "w")), None)

    def test_any_name_as_the_word(self):
        for word in ("back", "answer", "none", "fault", "abcdefgh"):
            self.check([SAY_X], ("ends", ("fault", word)), None)
            if word != "back":
                self.check([("fault", word)], ("ends", ("fault", word)), 1)

    def test_faults_that_are_caught(self):
        self.check([("catch", "w", [], [("fault", "w")], [])], ("ends", ("fault", "w")), None)
        self.check([("catch", "w", [], [("fault", "v")], [])], ("ends", ("fault", "v")), 1)
        self.check([("catch", "w", [], [("less", "c", 1, [("fault", "w")], [("fault", "v")])], [])],
                   ("ends", ("fault", "v")), 1)

    def test_only_for_some_cells(self):
        self.check([("less", "c", 0, [BACK], answers_ahead(2, []))], ("ends", NONE), 1)
        self.check([("less", "c", 0, [BACK], [("fault", "w")])], ("ends", ANSWER), None)
        self.check([choice([], [("less", "c", 7, [("fault", "w")], [])])], ("ends", ("fault", "w")), 2)


class TestAnswers(WishTest):

    def test_up_to_the_greatest_number_and_beyond(self):
        for many in range(1, 7):
            for n in range(1, 9):
                self.check(answers(many), ("answers", n), n if n <= many else None)
        for n in (BIG, 10, 1):
            self.check([BACK], ("answers", n), None)
            self.check([("fault", "w")], ("answers", n), None)
        self.check([choice([], [], "c")] * 4, ("answers", 16), 16)
        self.check([choice([], [], "c")] * 4, ("answers", 17), None)

    def test_only_on_some_ways(self):
        steps = [("less", "c", 1, answers(2), answers(4))]
        for n in range(1, 6):
            self.check(steps, ("answers", n), n if n <= 4 else None)
        self.check([choice([], [("less", "c", 2, [BACK], [])])], ("answers", 2), 2)
        self.check([("less", "c", 2, [], [BACK]), choice([], [("less", "c", 2, [BACK], [])], ["c"])], ("answers", 2), None)


class TestLessAndBelow(WishTest):

    def test_less(self):
        for n in (0, 5, -5, BIG, -BIG):
            self.check([], ("less", "c", n), 1)
            self.check([("add", "c", 3)], ("less", "c", n), 1)
            self.check([("set", "c", n)], ("less", "c", n), None)
            self.check([("set", "c", n - 1)], ("less", "c", n), 1)
            self.check([("set", "c", n), choice([], [("add", "c", -1)], ["c"])], ("less", "c", n), 2)
            self.check([("less", "c", n, [BACK], [])], ("less", "c", n), None)
            self.check([("less", "c", n, [BACK], [])], ("less", "c", n + 1), 1)
            self.check([("less", "c", n, [BACK], []), ("add", "c", -1)], ("less", "c", n), 1)

    def test_it_is_an_answer(self):
        for end in (BACK, ("fault", "w")):
            self.check([end], ("less", "c", 5), None)
            self.check([end], ("below", "c", "d", 5), None)
            self.check([("less", "c", 5, [end], [])], ("less", "c", 5), None)
            self.check([("less", "c", 5, [end], [])], ("less", "c", 6), 1)
            self.check([choice([end], [])], ("less", "c", 5), 1 if end == BACK else None)

    def test_below(self):
        for n in (0, 5, -5, BIG, -BIG):
            self.check([], ("below", "c", "d", n), 1)
            self.check([("copy", "c", "d", n)], ("below", "c", "d", n), None)
            self.check([("copy", "c", "d", n - 1)], ("below", "c", "d", n), 1)
            self.check([("copy", "c", "d", n), choice([], [("add", "d", 1)], ["c", "d"])], ("below", "c", "d", n), 2)
            self.check([("below", "c", "d", n, [BACK], [])], ("below", "c", "d", n), None)
            self.check([("below", "c", "d", n, [BACK], [])], ("below", "c", "d", n + 1), 1)
            self.check([("set", "d", 4), ("less", "c", n + 4, [BACK], [])], ("below", "c", "d", n), None)
            self.check([("set", "c", 4), ("less", "d", 5 - n, [], [BACK])], ("below", "c", "d", n), None)

    def test_cells_that_the_part_does_not_name(self):
        for steps in ([], [SAY_X], [("set", "a", 3)]):
            for n in (0, -BIG, BIG):
                self.check(steps, ("less", "q", n), 1)
                self.check(steps, ("below", "q", "r", n), 1)
                self.check(steps, ("below", "a", "q", n), 1)
                self.check(steps, ("below", "q", "a", n), 1)
        use = fulfilled(Part([]), ("less", "q", -3))
        self.assertLess(use[0]["q"], -3)

    def test_the_same_cell_twice(self):
        for cell in ("c", "q"):
            for n, many in ((1, 1), (BIG, 1), (0, None), (-1, None), (-BIG, None)):
                self.check([("add", "c", 1)], ("below", cell, cell, n), many)
                self.check([("set", "c", 1)], ("below", cell, cell, n), many)

    def test_cells_that_hold_a_value_since_an_earlier_answer(self):
        # At the second answer d has the value of c in the first dict plus 1, if it is held.
        for held, many in ((["c", "d"], None), (["d"], 2), (["c"], 2), ([], 2)):
            self.check([("copy", "d", "c", 1), choice([BACK], [], []), choice([BACK], [])], ("below", "d", "c", 1), None)
            self.check([("copy", "d", "c", 1), choice([], [], held)], ("below", "d", "c", 1), many)

    def test_bounds_of_earlier_answers(self):
        self.check([("less", "c", 4, [BACK], []), choice([], [("copy", "d", "c", 0)], ["c"])], ("less", "d", 4), 1)
        self.check([("less", "c", 4, [BACK], []), ("set", "d", 9), choice([], [("copy", "d", "c", 0)], ["c", "d"])],
                   ("less", "d", 4), None)
        self.check([("less", "c", 4, [BACK], []), ("set", "d", 9), choice([], [("copy", "d", "c", 0)], ["d"])],
                   ("less", "d", 4), 2)


class TestDoes(WishTest):

    def test_steps_within_each_kind_of_step(self):
        for word, step in steps_of_each_kind().items():
            with self.subTest(word):
                self.check([step], ("does", (0,)), 1)
                self.check([BACK, step], ("does", (1,)), None)

    def test_each_step_itself_and_its_lists(self):
        each = ("each", ["c"], [choice([("hole",)], [SAY_X])], [("add", "d", 1), SAY_Y])
        for path in ((0,), (0, 0, 0), (0, 0, 0, 0, 0), (0, 0, 0, 1, 0), (0, 1, 0), (0, 1, 1)):
            self.check([each], ("does", path), 1)
        for path in ((0, 0, 1), (0, 0, 2), (0, 1, 2), (0, 2, 0), (0, 0, 1, 1, 0)):
            self.check([each], ("does", path), None)
        self.check([("each", [], [BACK], [SAY_X])], ("does", (0, 1, 0)), None)
        self.check([("each", [], [BACK, SAY_Y], [SAY_X])], ("does", (0, 0, 1)), None)
        self.check([choice([], [("each", [], [("less", "c", 1, [], [BACK])], [SAY_X])])], ("does", (0, 1, 0, 1, 0)), 2)
        self.check([("each", [], [], [choice([BACK], [SAY_X]), SAY_Y])], ("does", (0, 1, 1)), 1)

    def test_within_times(self):
        self.check([("times", 0, [SAY_X])], ("does", (0, 0, 0)), None)
        self.check([("times", 0, [SAY_X])], ("does", (0,)), 1)
        for many in (1, 2, 3):
            self.check([("times", many, [SAY_X, ("times", 0, [SAY_Y])])], ("does", (0, 0, 0)), 1)
            self.check([("times", many, [SAY_X, ("times", 0, [SAY_Y])])], ("does", (0, 0, 1, 0, 0)), None)
        # Only the third time.
        body = [("add", "c", 1), ("less", "c", 3, [], [SAY_X])]
        for many in range(4):
            self.check([("set", "c", 0), ("times", many, body)], ("does", (1, 0, 1, 1, 0)), 1 if many == 3 else None)
        self.check([("times", 3, [choice([], [])])], ("does", (0, 0, 0)), 1)
        self.check([("times", 2, [choice([], [SAY_X, BACK])])], ("does", (0, 0, 0, 1, 1)), 2)

    def test_within_a_last(self):
        for body in ([], [SAY_X], [("fault", "w")]):
            self.check([("last", body, [SAY_Y])], ("does", (0, 1, 0)), 1)
        self.check([("last", [BACK], [SAY_Y])], ("does", (0, 1, 0)), None)
        self.check([("last", [("fault", "w"), SAY_X], [SAY_Y])], ("does", (0, 0, 1)), None)
        self.check([("last", [("fault", "w")], [SAY_Y]), SAY_X], ("does", (1,)), None)
        self.check([("last", [], [("last", [("fault", "w")], [SAY_X])])], ("does", (0, 1, 0, 1, 0)), 1)
        self.check([("last", [choice([], [("fault", "w")])], [SAY_Y])], ("does", (0, 0, 0, 1, 0)), 2)

    def test_within_a_catch(self):
        self.check([("catch", "w", [], [("fault", "w"), SAY_X], [SAY_Y])], ("does", (0, 0, 0)), 1)
        self.check([("catch", "w", [], [("fault", "w"), SAY_X], [SAY_Y])], ("does", (0, 0, 1)), None)
        self.check([("catch", "w", [], [("fault", "w"), SAY_X], [SAY_Y])], ("does", (0, 1, 0)), 1)
        self.check([("catch", "w", [], [("fault", "v")], [SAY_Y])], ("does", (0, 1, 0)), None)
        self.check([("catch", "w", [], [], [SAY_Y])], ("does", (0, 1, 0)), None)
        self.check([("catch", "w", [], [choice([], [("fault", "w")])], [SAY_Y])], ("does", (0, 1, 0)), 2)

    def test_within_choices(self):
        self.check([choice([SAY_X], [SAY_Y])], ("does", (0, 0, 0)), 1)
        self.check([choice([SAY_X], [SAY_Y])], ("does", (0, 1, 0)), 2)
        self.check([choice([BACK], [SAY_Y])], ("does", (0, 1, 0)), 1)
        self.check([("whether", [], [SAY_X], [SAY_Y], [("hole",)])], ("does", (0, 1, 0)), 1)
        self.check([("whether", [], [SAY_X], [SAY_Y], [("hole",)])], ("does", (0, 2, 0)), None)
        self.check([("whether", [], [BACK], [SAY_Y], [("hole",)])], ("does", (0, 1, 0)), None)
        self.check([("whether", [], [BACK], [SAY_Y], [("hole",)])], ("does", (0, 2, 0)), 1)
        self.check([("whether", [], [choice([], [SAY_X])], [], [])], ("does", (0, 0, 0, 1, 0)), None)

    def test_equal_steps_at_other_paths(self):
        # The wish is for the step at this path, whatever equal ones are done.
        self.check([SAY_X, BACK, SAY_X], ("does", (2,)), None)
        self.check([SAY_X, choice([SAY_X], [SAY_X])], ("does", (1, 1, 0)), 2)
        self.check([("last", [SAY_X], [SAY_X]), BACK, ("last", [SAY_X], [SAY_X])], ("does", (2, 1, 0)), None)
        self.check([("less", "c", 1, [("less", "c", 1, [SAY_X], [SAY_X])], [SAY_X])], ("does", (0, 0, 0, 1, 0)), None)

    def test_paths_that_the_part_does_not_have(self):
        for path in ((1,), (5,), (0, 0, 0), (0, 1, 0), (0, 5, 0), (BIG,), (0, BIG, 0), (0, 0, BIG), (0, 0, 0, 0, 0)):
            self.check([SAY_X], ("does", path), None)
            self.check([], ("does", path), None)
        self.check([("last", [], [])], ("does", (0, 1, 0)), None)
        self.check([("catch", "w", ["c"], [], [])], ("does", (0, 2, 0)), None)

    def test_what_other_steps_say_does_not_count(self):
        for word in ("does", "done", "step", "mark"):
            self.check([("say", word), BACK, SAY_X], ("does", (2,)), None)

    def test_all_steps_of_a_nested_part(self):
        never = {(2, 0, 1), (2, 0, 1, 0, 0), (2, 0, 1, 1, 0), (3, 1, 0), (3, 1, 0, 1, 0)}
        for path, _ in all_paths(NESTED):
            self.check(NESTED, ("does", path), None if path in never else 1)


class TestBadWishes(unittest.TestCase):

    def assert_bad(self, wish):
        for part in (Part([]), Part(NESTED)):
            with self.assertRaises(BadWish):
                fulfilled(part, wish)

    def test_objects_of_all_kinds(self):
        for thing in [*ANYTHING, 0, 1, BIG, {}, {"says": "x"}, {0: "says"}, "says", "says x", "does", ["says"], [[]],
                      [["says", "x"]], (("says", "x"),), [None, "x"], [True], [0, 1]]:
            with self.subTest(thing=thing):
                self.assert_bad(thing)
                self.assert_bad([thing])
                if thing != "says":
                    self.assert_bad((thing, "x"))
                self.assert_bad((thing, 1))

    def test_other_words(self):
        for word in ("", "say", "SAYS", "says ", "end", "answer", "none", "fault", "do", "above", "last", "hole", "back"):
            for items in ((), ("x",), (1,), ("x", 1), ("x", "y", 1), ((0,),), (ANSWER,)):
                self.assert_bad((word, *items))

    def test_items_more_or_less(self):
        for wish in (("says", "x"), ("ends", ANSWER), ("ends", ("fault", "w")), ("answers", 1), ("less", "c", 1),
                     ("below", "c", "d", 1), ("does", (0,))):
            fulfilled(Part([]), wish)
            for extra in ("x", 1, None, (0,), ANSWER, []):
                self.assert_bad((*wish, extra))
                self.assert_bad([*wish, extra])
            for at in range(len(wish)):
                if wish[:at] + wish[at + 1:] != ("less", "c", 1):
                    self.assert_bad(wish[:at] + wish[at + 1:])

    def test_names(self):
        for name in BAD_NAMES:
            self.assert_bad(("says", name))
            self.assert_bad(("ends", ("fault", name)))
            self.assert_bad(("less", name, 1))
            self.assert_bad(("below", name, "c", 1))
            self.assert_bad(("below", "c", name, 1))

    def test_numbers(self):
        for n in BAD_INTEGERS:
            self.assert_bad(("answers", n))
            self.assert_bad(("less", "c", n))
            self.assert_bad(("below", "c", "d", n))
        for n in (0, -1, -BIG, True, False):
            self.assert_bad(("answers", n))

    def test_ends_that_are_none(self):
        for end in [*ANYTHING, 0, 1, {}, "answer", "none", "fault", ["fault"], ("fault",), ("answer", "w"), ("none", "w"),
                    ("answer", None), ("fault", "w", "v"), ("fault", "w", None), ("fault", ("w",)), ("over",), (ANSWER,),
                    ("answers",), ("ANSWER",), ("w",), (None,), ("answer", "answer"), {"fault": "w"}, ("none", []),
                    (["answer"],), [True], ("fault", 1), [0, "w"]]:
            self.assert_bad(("ends", end))

    def test_paths_that_are_none(self):
        for path in [*ANYTHING[:6], 0, "0", [], (), (0, 0), (1, 2, 3, 4), (-1,), (0, -1, 0), (0, 0, -1), (-BIG,), (True,),
                     (False,), (0, True, 0), (0, 0, False), ("0",), (None,), ((0,),), [[0]], (0, (0,), 0), {}, {0: 0},
                     (0, "a", 0), (0, None, 0)]:
            with self.subTest(path=path):
                self.assert_bad(("does", path))

    def test_a_wish_is_looked_at_whole(self):
        # Where the path is wrong, it does not matter that the part has no such step.
        self.assert_bad(("does", (99, True, 0)))
        self.assert_bad(("below", "q", "r", "s"))

    def test_wishes_as_lists(self):
        part = Part([choice([SAY_X], [("fault", "w")])])
        for wish in (("says", "x"), ("ends", ("fault", "w")), ("ends", ("answer",)), ("answers", 1), ("less", "c", 1),
                     ("below", "c", "d", 1), ("does", (0, 1, 0))):
            expected = fulfilled(part, wish)
            self.assertIsNotNone(expected)
            self.assertEqual(fulfilled(part, listed(wish)), expected)
            self.assertEqual(fulfilled(part, [wish[0], *wish[1:]]), expected)

    def test_arguments_stay(self):
        part, wish = Part(NESTED), ["does", [2, 0, 0]]
        before = part.steps(), copy.deepcopy(wish)
        found = fulfilled(part, wish)
        self.assertEqual((part.steps(), wish), before)
        self.assertEqual(fulfilled(wish=wish, part=part), found)
        found[0]["c"] = "changed"
        found.append(1)
        self.assertNotEqual(fulfilled(part, wish), found)


class TestDead(unittest.TestCase):

    def check(self, steps, expected):
        found = dead(Part(steps))
        self.assertEqual(found, expected)
        self.assertIs(type(found), list)
        self.assertTrue(all(type(path) is tuple for path in found))

    def test_all_steps_are_done(self):
        for steps in ([], [SAY_X], [("less", "c", 1, [SAY_X], [SAY_Y])], [choice([SAY_X], [BACK])], [("fault", "w")],
                      [("catch", "w", ["c"], [("less", "c", 1, [("fault", "w")], [])], [SAY_X]), ("hole",)],
                      [("each", [], [choice([], [])], [SAY_X])], [("whether", [], [("less", "c", 1, [BACK], [])], [SAY_X], [SAY_Y])],
                      [("times", 3, [SAY_X])], [("last", [("fault", "w")], [SAY_X])]):
            self.check(steps, [])

    def test_behind_faults_and_backs(self):
        self.check([BACK, SAY_X, ("last", [SAY_Y], [])], [(1,), (2,), (2, 0, 0)])
        self.check([("fault", "w"), ("hole",)], [(1,)])
        self.check([("last", [("fault", "w"), SAY_X], [SAY_Y]), SAY_X], [(0, 0, 1), (1,)])

    def test_alone_or_with_all_that_is_within(self):
        inner = [("last", [SAY_X], [choice([SAY_X], [("fault", "w")])])]
        self.check([("times", 0, inner)], [(0, 0, 0), (0, 0, 0, 0, 0), (0, 0, 0, 1, 0), (0, 0, 0, 1, 0, 0, 0),
                                           (0, 0, 0, 1, 0, 1, 0)])
        self.check([("catch", "w", [], [SAY_X], [SAY_Y])], [(0, 1, 0)])
        self.check([("less", "c", 1, [("less", "c", 1, [], inner)], [])],
                   [(0, 0, 0, 1, 0), (0, 0, 0, 1, 0, 0, 0), (0, 0, 0, 1, 0, 1, 0), (0, 0, 0, 1, 0, 1, 0, 0, 0),
                    (0, 0, 0, 1, 0, 1, 0, 1, 0)])

    def test_within_times(self):
        self.check([("times", 0, [SAY_X, SAY_Y])], [(0, 0, 0), (0, 0, 1)])
        self.check([("times", 3, [("times", 0, [SAY_X])])], [(0, 0, 0, 0, 0)])
        self.check([("set", "c", 0), ("times", 2, [("add", "c", 1), ("less", "c", 3, [], [SAY_X])])], [(1, 0, 1, 1, 0)])
        self.check([("set", "c", 0), ("times", 3, [("add", "c", 1), ("less", "c", 3, [], [SAY_X])])], [])

    def test_each(self):
        self.check([("each", [], [BACK, SAY_X], [SAY_Y])], [(0, 0, 1), (0, 1, 0)])
        self.check([("each", [], [], [BACK, SAY_Y])], [(0, 1, 1)])
        self.check([("each", [], [], [choice([], [SAY_Y])])], [(0, 1, 0, 1, 0)])

    def test_only_at_later_answers(self):
        self.check(answers_ahead(4, [SAY_X]), [])
        self.check([("less", "c", 0, [BACK], []), choice([], [("less", "c", 0, [SAY_X], [SAY_Y])], ["c"])],
                   [(1, 1, 0, 0, 0)])
        self.check([("less", "c", 0, [BACK], []), choice([], [("less", "c", 0, [SAY_X], [SAY_Y])], [])], [])

    def test_equal_steps(self):
        self.check([SAY_X, ("last", [SAY_X], [BACK, SAY_X]), SAY_X], [(1, 1, 1), (2,)])

    def test_ascending_beyond_ten(self):
        self.check([BACK] + [("hole",)] * 12, [(at,) for at in range(1, 13)])
        self.check([("times", 0, [("hole",)] * 12)], [(0, 0, at) for at in range(12)])

    def test_the_part_stays(self):
        part = Part(NESTED)
        before = part.steps()
        found = dead(part)
        found.append((9,))
        self.assertEqual(dead(part=part), found[:-1])
        self.assertEqual(part.steps(), before)


class TestMostAnswers(unittest.TestCase):

    def check(self, steps, expected):
        found = most_answers(Part(steps))
        self.assertEqual(found, expected)
        self.assertIs(type(found), int)

    def test_without_choices(self):
        self.check([], 1)
        self.check([SAY_X, ("set", "c", 1)], 1)
        self.check([BACK], 0)
        self.check([("fault", "w")], 0)
        self.check([("less", "c", 1, [], [BACK])], 1)
        self.check([("less", "c", 1, [("fault", "v")], [BACK])], 0)
        self.check([("catch", "w", [], [("fault", "w")], [])], 1)

    def test_with_choices(self):
        for many in range(1, 6):
            self.check(answers(many), many)
            self.check(answers_ahead(many, [BACK]), many)
        self.check([choice([], [])], 2)
        self.check([choice([BACK], [])], 1)
        self.check([choice([], [("fault", "w")])], 1)
        self.check([choice([("fault", "w")], [])], 0)
        self.check([("whether", [], [choice([], [])], [], [])], 1)
        self.check([("whether", [], [], [choice([], [])], [])], 2)
        self.check([("whether", [], [BACK], [], [choice([], [])])], 2)
        self.check([("each", [], [choice([], [])], [])], 1)
        self.check([("each", [], [choice([], [])], [choice([], [])])], 1)
        self.check([("catch", "w", [], [choice([], [("fault", "w")])], [])], 2)
        self.check([("last", [choice([], [])], [choice([], [])])], 4)

    def test_tests_that_shut_ways(self):
        self.check([("less", "c", 1, [("less", "c", 1, [], answers(4))], [])], 1)
        self.check([("less", "c", 1, [("less", "c", 0, [], answers(4))], [])], 4)
        self.check([("less", "c", 0, [], [BACK]), choice([], [("less", "c", 0, [BACK], [])], ["c"])], 1)
        self.check([("less", "c", 0, [], [BACK]), choice([], [("less", "c", 0, [BACK], [])], [])], 2)
        self.check([("set", "c", 0), ("less", "c", 0, answers(3), answers(2))], 2)

    def test_the_greatest_parts(self):
        self.check([choice([], [], "c")] * 4, 16)
        self.check([("times", 2, [choice([], []), choice([], [], "d")])], 16)
        self.check([choice([], [])] * 3 + [("less", "c", 0, [("hole",)] * 30, [])], 8)
        self.check([("times", 3, [("hole",)] * 25), choice([], []), *[("less", "c", n, [], [BACK]) for n in range(4)]], 2)
        self.check([("below", "a", cell, 1, [], [BACK]) for cell in "bcdefghi"], 1)

    def test_the_part_stays(self):
        part = Part(NESTED)
        before = part.steps()
        self.assertEqual(most_answers(part=part), most_answers(part))
        self.assertEqual(part.steps(), before)


if __name__ == "__main__":
    unittest.main()

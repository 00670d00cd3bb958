"""[12], [13]: trees, told by hand for each kind of step, and what a tree tells of a use."""

import copy
import unittest

from heldback.errors import BadUse
from heldback.parts import Part
from heldback.trees import followed, tree
from heldback.uses import outcomes
from maker import Maker
from samples import ANYTHING, BIG, listed, tupled
from test_uses import BAD_DICTS, NO_DICTS, TWO

ANSWER, NONE = ("answer",), ("none",)


def none_behind(k, *cells):
    """The end of a run that has no choice open: each cell is as it was set."""
    return ("none", [], [(cell, (cell, k), 0) for cell in cells])


def only_answer(words, cells):
    """The node of the only answer of a part, with its end behind it; cells are triples."""
    return ("answer", words, cells, none_behind(1, *[cell for cell, _, _ in cells]))


A, B, C = ("a", 0), ("b", 0), ("c", 0)


class TestTree(unittest.TestCase):

    def check(self, steps, expected):
        self.assertEqual(tree(Part(steps)), expected)
        self.assertEqual(tree(Part(listed(steps))), expected)

    def test_no_steps(self):
        self.check([], ("answer", [], [], ("none", [], [])))

    def test_say_set_add_copy_hole(self):
        self.check([("say", "x"), ("hole",), ("say", "y")], only_answer(["x", "y"], []))
        self.check([("set", "c", 4)], only_answer([], [("c", None, 4)]))
        self.check([("add", "c", 4)], only_answer([], [("c", C, 4)]))
        self.check([("add", "c", 4), ("add", "c", -5)], only_answer([], [("c", C, -1)]))
        self.check([("set", "c", 4), ("add", "c", -5)], only_answer([], [("c", None, -1)]))
        self.check([("add", "c", 4), ("set", "c", -5)], only_answer([], [("c", None, -5)]))
        self.check([("copy", "d", "c", 3)], only_answer([], [("c", C, 0), ("d", C, 3)]))
        self.check([("copy", "c", "c", 3)], only_answer([], [("c", C, 3)]))
        self.check([("add", "c", 1), ("copy", "d", "c", 3), ("set", "c", 0), ("copy", "b", "d", 1)],
                   only_answer([], [("b", C, 5), ("c", None, 0), ("d", C, 4)]))
        self.check([("set", "c", BIG), ("add", "c", BIG)], only_answer([], [("c", None, 2 * BIG)]))

    def test_held_cells_are_named(self):
        self.check([("catch", "w", ["k", "b"], [], [])], only_answer([], [("b", B, 0), ("k", ("k", 0), 0)]))

    def test_less(self):
        def sides(*cells):
            return only_answer(["y"], [*cells]), only_answer(["n"], [*cells])

        test = ("less", "c", 3, [("say", "y")], [("say", "n")])
        self.check([test], ("if", C, None, 3, *sides(("c", C, 0))))
        self.check([("add", "c", 5), test], ("if", C, None, -2, *sides(("c", C, 5))))
        self.check([("copy", "c", "b", 1), test], ("if", B, None, 2, *sides(("b", B, 0), ("c", B, 1))))
        self.check([("set", "c", 2), test], sides(("c", None, 2))[0])
        self.check([("set", "c", 3), test], sides(("c", None, 3))[1])
        self.check([("set", "c", 4), test], sides(("c", None, 4))[1])

    def test_below(self):
        def sides(*cells):
            return only_answer(["y"], [*cells]), only_answer(["n"], [*cells])

        test = ("below", "c", "b", 3, [("say", "y")], [("say", "n")])
        plain = (("b", B, 0), ("c", C, 0))
        self.check([test], ("if", C, B, 3, *sides(*plain)))
        self.check([("add", "c", 5), test], ("if", C, B, -2, *sides(("b", B, 0), ("c", C, 5))))
        self.check([("add", "b", 5), test], ("if", C, B, 8, *sides(("b", B, 5), ("c", C, 0))))
        self.check([("set", "c", 5), test], ("if", None, B, -2, *sides(("b", B, 0), ("c", None, 5))))
        self.check([("set", "b", 5), test], ("if", C, None, 8, *sides(("b", None, 5), ("c", C, 0))))
        self.check([("copy", "c", "b", 2), test], sides(("b", B, 0), ("c", B, 2))[0])
        self.check([("copy", "c", "b", 3), test], sides(("b", B, 0), ("c", B, 3))[1])
        self.check([("copy", "b", "c", -2), test], sides(("b", C, -2), ("c", C, 0))[0])
        self.check([("copy", "b", "c", -3), test], sides(("b", C, -3), ("c", C, 0))[1])
        self.check([("set", "b", 2), ("set", "c", 4), test], sides(("b", None, 2), ("c", None, 4))[0])
        self.check([("set", "b", 2), ("set", "c", 5), test], sides(("b", None, 2), ("c", None, 5))[1])

    def test_a_cell_with_itself(self):
        for n, word in ((1, "y"), (BIG, "y"), (0, "n"), (-1, "n")):
            self.check([("below", "c", "c", n, [("say", "y")], [("say", "n")])], only_answer([word], [("c", C, 0)]))

    def test_two_cells_with_one_source(self):
        self.check([("copy", "a", "c", 1), ("copy", "b", "c", 2), ("below", "a", "b", 0, [("say", "y")], [])],
                   only_answer(["y"], [("a", C, 1), ("b", C, 2), ("c", C, 0)]))

    def test_times(self):
        for many in range(4):
            self.check([("times", many, [("say", "x"), ("add", "c", 2)])],
                       only_answer(["x"] * many, [("c", C, 2 * many)]))

    def test_faults(self):
        self.check([("say", "x"), ("add", "c", 1), ("fault", "w"), ("say", "y")],
                   ("fault", "w", ["x"], [("c", C, 1)]))
        self.check([("catch", "w", ["c"], [("add", "c", 1), ("add", "b", 1), ("fault", "w")], [("say", "y")])],
                   only_answer(["y"], [("b", B, 1), ("c", C, 0)]))
        self.check([("catch", "w", [], [("add", "c", 1), ("fault", "v")], [("say", "y")])],
                   ("fault", "v", [], [("c", C, 1)]))
        self.check([("last", [("fault", "v")], [("add", "c", 1)])], ("fault", "v", [], [("c", C, 1)]))
        self.check([("last", [("say", "x")], [("say", "y")])], only_answer(["x", "y"], []))

    def test_back(self):
        self.check([("say", "x"), ("add", "c", 3), ("back",), ("say", "y")], ("none", ["x"], [("c", C, 3)]))

    def test_sources_behind_answers(self):
        # The held cell has the source of the moment at which it was kept, the other one that of its last setting.
        self.check([("add", "c", 1), ("add", "d", 1), ("either", ["c"], [("say", "x")], [("say", "y")])],
                   ("answer", ["x"], [("c", C, 1), ("d", ("d", 0), 1)],
                    ("answer", ["y"], [("c", C, 1), ("d", ("d", 1), 0)], none_behind(2, "c", "d"))))

    def test_a_held_cell_that_was_set(self):
        self.check([("set", "c", 7), ("either", ["c"], [("add", "c", 1)], [("add", "c", 2)])],
                   ("answer", [], [("c", None, 8)], ("answer", [], [("c", None, 9)], none_behind(2, "c"))))

    def test_sources_behind_two_answers(self):
        inner = ("either", ["d"], [], [])
        self.check([("either", ["c"], [inner], [("copy", "e", "c", 1)]), ("add", "d", 1)],
                   ("answer", [], [("c", C, 0), ("d", ("d", 0), 1), ("e", ("e", 0), 0)],
                    ("answer", [], [("c", ("c", 1), 0), ("d", ("d", 0), 1), ("e", ("e", 1), 0)],
                     ("answer", [], [("c", C, 0), ("d", ("d", 2), 1), ("e", C, 1)], none_behind(3, "c", "d", "e")))))

    def test_ifs_behind_answers(self):
        part = [("either", ["b"], [], [("below", "b", "c", 0, [("say", "y")], [("say", "n")])])]

        def behind(word):
            return ("answer", [word], [("b", B, 0), ("c", ("c", 1), 0)], none_behind(2, "b", "c"))
        self.check(part, ("answer", [], [("b", B, 0), ("c", C, 0)],
                          ("if", B, ("c", 1), 0, behind("y"), behind("n"))))

    def test_one_cell_at_two_moments(self):
        part = [("copy", "b", "c", 0), ("either", ["b"], [], [("below", "b", "c", 1, [("say", "y")], [("say", "n")])])]

        def behind(word):
            return ("answer", [word], [("b", C, 0), ("c", ("c", 1), 0)], none_behind(2, "b", "c"))
        self.check(part, ("answer", [], [("b", C, 0), ("c", C, 0)],
                          ("if", C, ("c", 1), 1, behind("y"), behind("n"))))

    def test_whether(self):
        self.check([("whether", ["c"], [("add", "c", 1), ("back",)], [("say", "y")], [("say", "n")])],
                   only_answer(["n"], [("c", C, 0)]))
        self.check([("whether", ["c"], [("add", "c", 1), ("either", [], [], [])], [("say", "y")], [("say", "n")])],
                   only_answer(["y"], [("c", C, 1)]))
        self.check([("whether", [], [("less", "c", 0, [], [("back",)])], [("say", "y")], [("say", "n")])],
                   ("if", C, None, 0, only_answer(["y"], [("c", C, 0)]), only_answer(["n"], [("c", C, 0)])))

    def test_each(self):
        self.check([("each", ["c"], [("either", [], [("add", "c", 1)], [("add", "c", 1), ("add", "d", 1)])],
                     [("say", "x"), ("copy", "e", "c", 0)]), ("say", "z")],
                   only_answer(["x", "x", "z"], [("c", C, 0), ("d", ("d", 0), 1), ("e", C, 2)]))

    def test_a_choice_inside_a_catch_and_a_last(self):
        steps = [("catch", "w", ["c"], [("last", [("either", [], [], [("add", "c", 1), ("fault", "w")])],
                                         [("say", "l")])], [("say", "t")])]
        self.check(steps, ("answer", ["l"], [("c", C, 0)],
                           ("answer", ["l", "t"], [("c", C, 0)], none_behind(2, "c"))))

    def test_words_are_those_since_the_outcome_before(self):
        self.check([("say", "a"), ("either", [], [("say", "b")], [("say", "c"), ("either", [], [], [("say", "d")])])],
                   ("answer", ["a", "b"], [], ("answer", ["c"], [], ("answer", ["d"], [], ("none", [], [])))))

    def test_answers_at_the_limit(self):
        node = tree(Part([("times", 2, [("times", 2, [("either", [], [], [])])]), ("say", "x")]))
        for _ in range(16):
            self.assertEqual(node[:3], ("answer", ["x"], []))
            node = node[3]
        self.assertEqual(node, ("none", [], []))

    def test_the_same_at_each_time(self):
        part = Part([("less", "c", 0, [("say", "x")], []), ("either", ["c"], [], [("fault", "w")])])
        first = tree(part)
        kept = copy.deepcopy(first)
        self.assertEqual(tree(part), first)
        # What is done to the lists of a tree does not reach the next one.
        first[4][1].append("more")
        first[4][2].clear()
        self.assertEqual(tree(part), kept)

    def test_kinds_of_values(self):
        part = Part([("less", "c", 0, [("say", "x"), ("fault", "w")], []), ("either", ["c"], [], [("set", "c", 1)])])

        def look(node):
            self.assertIs(type(node), tuple)
            self.assertIs(type(node[0]), str)
            if node[0] == "if":
                for source in node[1:3]:
                    self.assertTrue(source is None or type(source) is tuple)
                self.assertIs(type(node[3]), int)
                look(node[4])
                look(node[5])
                return
            words, cells = node[1:3] if node[0] == "answer" else node[-2:]
            self.assertEqual((type(words), type(cells)), (list, list))
            for triple in cells:
                self.assertIs(type(triple), tuple)
                self.assertTrue(triple[1] is None or type(triple[1]) is tuple)
                self.assertIs(type(triple[2]), int)
            if node[0] == "answer":
                look(node[3])

        look(tree(part))

    def test_names_of_the_arguments(self):
        self.assertEqual(tree(part=TWO), tree(TWO))
        self.assertEqual(followed(nodes=tree(TWO), use=[{}]), followed(tree(TWO), [{}]))


def shape(node):
    """The ifs of a tree, (one, other, n, yes, no), and the words of its nodes, joined."""
    if node[0] == "if":
        return (*node[1:4], shape(node[4]), shape(node[5]))
    words = "".join(node[1] if node[0] != "fault" else node[2])
    if node[0] != "answer":
        return words
    inner = shape(node[3])
    return (words, inner) if inner else words


def test_of(cell, n, yes, no):
    """A less step that says yes or no."""
    return ("less", cell, n, [("say", yes)], [("say", no)])


def below(cell, other, n, yes, no):
    return ("below", cell, other, n, [("say", yes)], [("say", no)])


class TestIfsThatAreLeftOut(unittest.TestCase):

    def check(self, steps, expected):
        self.assertEqual(shape(tree(Part(steps))), expected)

    def test_the_same_test_again(self):
        self.check([test_of("c", 3, "y", "n"), test_of("c", 3, "p", "q")], (C, None, 3, "yp", "nq"))
        self.check([below("a", "c", 3, "y", "n"), below("a", "c", 3, "p", "q")], (A, C, 3, "yp", "nq"))

    def test_by_one_comparison(self):
        self.check([test_of("c", 3, "y", "n"), test_of("c", 4, "p", "q")],
                   (C, None, 3, "yp", (C, None, 4, "np", "nq")))
        self.check([test_of("c", 3, "y", "n"), test_of("c", 2, "p", "q")],
                   (C, None, 3, (C, None, 2, "yp", "yq"), "nq"))

    def test_turned_round(self):
        # c < b + 1 is just not b < c; so the last test is settled on both sides.
        self.check([below("b", "c", 0, "y", "n"), below("c", "b", 1, "p", "q")], (B, C, 0, "yq", "np"))
        self.check([below("b", "c", 0, "y", "n"), below("c", "b", 0, "p", "q")],
                   (B, C, 0, "yq", (C, B, 0, "np", "nq")))

    def test_a_number_between_two_borders(self):
        # No integer lies between 3 and 3, just one from 3 up to below 4.
        self.check([test_of("c", 4, "y", "n"), test_of("c", 3, "p", "q"), ("copy", "b", "c", 0), ("set", "a", 3),
                    ("below", "a", "b", 0, [("say", "g")], [("say", "h")])],
                   (C, None, 4, (C, None, 3, "yph", "yqh"), "nqg"))

    def test_by_two_comparisons_together(self):
        # a < b and b < c: so a + 1 < c; neither of them tells it alone.
        self.check([below("a", "b", 0, "y", "n"), below("b", "c", 0, "p", "q"), below("a", "c", -1, "g", "h")],
                   (A, B, 0, (B, C, 0, "ypg", (A, C, -1, "yqg", "yqh")),
                    (B, C, 0, (A, C, -1, "npg", "nph"), "nqh")))

    def test_by_three_over_several_cells_and_numbers(self):
        steps = [("less", "a", 3, [], [("back",)]), ("below", "a", "b", 1, [("back",)], []),
                 ("below", "c", "b", -4, [], [("back",)]), test_of("c", -2, "y", "n")]
        # a < 3, b < a, c < b - 4: c is at most -4.
        found = tree(Part(steps))
        self.assertEqual(shape(found[4][5][4]), "y")
        # c < -4 can be and can not be.
        steps[3] = test_of("c", -4, "y", "n")
        self.assertEqual(shape(tree(Part(steps))[4][5][4]), (C, None, -4, "y", "n"))

    def test_the_borders_of_what_several_leave(self):
        ahead = [("below", "a", "b", 0, [], [("fault", "w")]), ("below", "b", "c", 0, [], [("fault", "w")])]
        for n, expected in ((-3, (A, C, -3, "y", "n")), (-2, (A, C, -2, "y", "n")), (-1, "y"), (0, "y"), (BIG, "y"),
                            (-BIG, (A, C, -BIG, "y", "n"))):
            self.assertEqual(shape(tree(Part(ahead + [below("a", "c", n, "y", "n")]))[4][4]), expected)
        for n, expected in ((1, "n"), (2, "n"), (3, (C, A, 3, "y", "n")), (-BIG, "n"), (BIG, (C, A, BIG, "y", "n"))):
            self.assertEqual(shape(tree(Part(ahead + [below("c", "a", n, "y", "n")]))[4][4]), expected)

    def test_great_and_negative_numbers(self):
        self.check([test_of("c", BIG, "y", "n"), test_of("c", -BIG, "p", "q")],
                   (C, None, BIG, (C, None, -BIG, "yp", "yq"), "nq"))
        self.check([below("a", "b", BIG, "y", "n"), below("b", "a", BIG, "p", "q")],
                   (A, B, BIG, (B, A, BIG, "yp", "yq"), "np"))
        self.check([below("a", "b", -BIG, "y", "n"), below("b", "a", -BIG, "p", "q")],
                   (A, B, -BIG, "yq", (B, A, -BIG, "np", "nq")))

    def test_by_ifs_ahead_of_earlier_answers(self):
        # b keeps what c was at first; so its test behind the answer is settled, that of c is not.
        ahead = [test_of("c", 3, "y", "n"), ("copy", "b", "c", 0)]
        self.check(ahead + [("either", ["b"], [], [test_of("b", 3, "p", "q")])],
                   (C, None, 3, ("y", "p"), ("n", "q")))
        self.check(ahead + [("either", ["b"], [], [test_of("c", 3, "p", "q")])],
                   (C, None, 3, ("y", (("c", 1), None, 3, "p", "q")), ("n", (("c", 1), None, 3, "p", "q"))))
        self.check(ahead + [("either", [], [], [test_of("b", 3, "p", "q")])],
                   (C, None, 3, ("y", (("b", 1), None, 3, "p", "q")), ("n", (("b", 1), None, 3, "p", "q"))))

    def test_by_ifs_ahead_of_earlier_answers_together(self):
        steps = [("below", "a", "b", 0, [], [("back",)]),
                 ("either", ["a", "b"], [], [("below", "b", "c", 0, [], [("back",)])]),
                 ("either", ["a", "b", "c"], [], [below("a", "c", 0, "y", "n")])]
        node = tree(Part(steps))[4]
        # The answers: at first, then a and c of the second asking, then behind the outer choice with c of the third.
        self.assertEqual(node[3][1:3], (A, ("c", 0)))
        behind = node[3][4][3]
        self.assertEqual(behind[:4], ("if", B, ("c", 2), 0))
        # There a is less than b, and b less than c as it was set last.
        self.assertEqual(shape(behind[4][3]), "y")

    def test_all_that_stands_below_a_way_that_cannot_be_gone(self):
        self.check([("less", "c", 0, [("less", "c", 0, [("say", "x")], [("fault", "w"), ("say", "never")])], [])],
                   (C, None, 0, "x", ""))

    def test_what_is_settled_for_one_cell_says_nothing_of_another(self):
        self.check([test_of("a", 0, "y", "n"), test_of("b", 0, "p", "q")],
                   (A, None, 0, (B, None, 0, "yp", "yq"), (B, None, 0, "np", "nq")))

    def test_none_and_a_number_that_a_cell_was_set_to(self):
        self.check([("set", "a", 5), below("a", "b", 0, "y", "n"), test_of("b", 6, "p", "q")],
                   (None, B, -5, "yq", "np"))


class TestFollowed(unittest.TestCase):

    def test_what_a_part_tells(self):
        part = Part([("less", "c", 3, [("say", "y")], [("say", "n")]),
                     ("either", ["c"], [("add", "c", 1)], [("below", "d", "c", 0, [("fault", "w")], [])])])
        for c in range(1, 5):
            for d in range(1, 5):
                for use in ([{"c": c, "d": d}], [{"c": c}, {"d": d}], [{"c": c}, {"c": 90, "d": d}, {"c": 4}],
                            [{"d": c}, {}], [{"d": d}, {"c": c}] + [{}] * 18):
                    self.assertEqual(followed(tree(part), use), outcomes(part, use))

    def test_cells_that_the_part_does_not_name(self):
        found = followed(tree(TWO), [{"z": 1}, {"c": 2, "b": 1}])
        self.assertEqual(found, [(["one"], ANSWER, [("c", 5), ("n", 1)]), (["two"], ANSWER, [("c", 0), ("n", 2)])])

    def test_uses_that_are_longer_than_the_tree(self):
        self.assertEqual(followed(("none", ["x"], []), [{}] * 5), [(["x"], NONE, [])])
        self.assertEqual(followed(("fault", "w", ["x"], []), [{}] * 5), [(["x"], ("fault", "w"), [])])
        nodes = ("answer", ["x"], [], ("fault", "w", [], []))
        self.assertEqual(followed(nodes, [{}] * 5), [(["x"], ANSWER, []), ([], ("fault", "w"), [])])
        self.assertEqual(followed(nodes, [{}]), [(["x"], ANSWER, [])])

    def test_a_dict_that_does_not_have_the_cell_at_first(self):
        nodes = ("none", [], [("c", ("c", 0), 3)])
        self.assertEqual(followed(nodes, [{}]), [([], NONE, [("c", 3)])])
        self.assertEqual(followed(nodes, [{"c": 4}]), [([], NONE, [("c", 7)])])
        self.assertEqual(followed(nodes, [{"b": 4}, {"c": 9}]), [([], NONE, [("c", 3)])])

    def test_a_dict_that_does_not_have_the_cell_later(self):
        end = ("none", [], [("c", ("c", 1), 1)])
        has = ("answer", [], [("c", ("c", 0), 10)], end)
        lacks = ("answer", [], [("b", ("c", 0), 10)], end)
        self.assertEqual(followed(has, [{"c": 5}, {}])[1], ([], NONE, [("c", 16)]))
        self.assertEqual(followed(has, [{"c": 5}, {"c": 7}])[1], ([], NONE, [("c", 8)]))
        self.assertEqual(followed(has, [{}, {}])[1], ([], NONE, [("c", 11)]))
        # The node of the answer before does not have the cell: it is as it was set before.
        self.assertEqual(followed(lacks, [{"c": 5}, {}])[1], ([], NONE, [("c", 6)]))
        self.assertEqual(followed(lacks, [{"c": 5}, {"c": 7}])[1], ([], NONE, [("c", 8)]))
        self.assertEqual(followed(lacks, [{}, {}])[1], ([], NONE, [("c", 1)]))

    def test_far_back(self):
        end = ("none", [], [("c", ("c", 3), 0)])

        def nodes(first, second, third):
            return ("answer", [], first, ("answer", [], second, ("answer", [], third, end)))

        def told(tree_of, use):
            return followed(tree_of, use)[3][2][0][1]

        free = nodes([], [], [])
        self.assertEqual(told(free, [{"c": 1}, {"c": 2}, {"c": 3}, {"c": 4}]), 4)
        self.assertEqual(told(free, [{"c": 1}, {"c": 2}, {"c": 3}, {}]), 3)
        self.assertEqual(told(free, [{"c": 1}, {"c": 2}, {}, {}]), 2)
        self.assertEqual(told(free, [{"c": 1}, {}, {}, {}]), 1)
        self.assertEqual(told(free, [{}, {}, {}, {}]), 0)
        told_first = nodes([("c", None, 50)], [], [])
        self.assertEqual(told(told_first, [{"c": 1}, {}, {}, {}]), 50)
        self.assertEqual(told(told_first, [{"c": 1}, {"c": 2}, {}, {}]), 2)
        told_second = nodes([("c", None, 50)], [("c", None, 60)], [])
        self.assertEqual(told(told_second, [{"c": 1}, {"c": 2}, {}, {}]), 60)
        self.assertEqual(told(told_second, [{"c": 1}, {"c": 2}, {"c": 3}, {}]), 3)

    def test_a_source_of_an_earlier_moment(self):
        # (c, 1) is asked for behind the second answer; what c was at that answer does not count.
        nodes = ("answer", [], [("c", None, 50)], ("answer", [], [("c", None, 60)], ("none", [], [("c", ("c", 1), 0)])))
        self.assertEqual(followed(nodes, [{}, {}, {}])[2][2], [("c", 50)])
        self.assertEqual(followed(nodes, [{}, {"c": 2}, {}])[2][2], [("c", 2)])
        self.assertEqual(followed(nodes, [{}, {}, {"c": 3}])[2][2], [("c", 50)])

    def test_ifs(self):
        nodes = ("if", ("c", 0), ("d", 0), 2, ("none", ["y"], []), ("none", ["n"], []))
        for c in range(-4, 5):
            for d in range(-4, 5):
                word = "y" if c < d + 2 else "n"
                self.assertEqual(followed(nodes, [{"c": c, "d": d}]), [([word], NONE, [])])
        for one, other, n, word in ((None, ("d", 0), 0, "n"), (None, ("d", 0), 1, "y"), (("c", 0), None, 0, "n"),
                                    (("c", 0), None, 1, "y")):
            nodes = ("if", one, other, n, ("none", ["y"], []), ("none", ["n"], []))
            self.assertEqual(followed(nodes, [{}]), [([word], NONE, [])])

    def test_ifs_that_the_package_would_leave_out(self):
        inner = ("if", ("c", 0), None, 5, ("none", ["y"], []), ("none", ["n"], []))
        nodes = ("if", ("c", 0), None, 3, inner, inner)
        self.assertEqual([followed(nodes, [{"c": c}])[0][0] for c in range(2, 6)], [["y"], ["y"], ["y"], ["n"]])

    def test_cells_in_the_order_of_the_nodes(self):
        nodes = ("answer", [], [("z", None, 1), ("a", ("q", 0), 2), ("m", ("z", 0), -1)],
                 ("fault", "w", ["x"], [("b", ("a", 1), 0), ("a", None, 0)]))
        self.assertEqual(followed(nodes, [{"q": 5}, {}]), [
            ([], ANSWER, [("z", 1), ("a", 7), ("m", -1)]), (["x"], ("fault", "w"), [("b", 7), ("a", 0)])])

    def test_lists_and_tuples_exchanged(self):
        nodes = ("if", ("c", 0), None, 2,
                 ("answer", ["x", "y"], [("c", ("c", 0), 1)], ("fault", "w", ["z"], [("c", ("c", 1), 2)])),
                 ("none", [], [("c", None, 3)]))
        for use in ([{"c": 1}, {}], [{"c": 2}], [{}, {"c": 7}, {}]):
            expected = followed(nodes, use)
            for other in (listed(nodes), tupled(nodes)):
                found = followed(other, tuple(use))
                self.assertEqual(found, expected)
                for outcome in found:
                    self.assertIs(type(outcome), tuple)
                    self.assertEqual([type(thing) for thing in outcome], [list, tuple, list])
                    self.assertEqual({type(pair) for pair in outcome[2]}, {tuple})

    def test_the_arguments_are_neither_changed_nor_kept(self):
        nodes = listed(tree(TWO))
        use = [{"c": 1}, {}]
        kept = copy.deepcopy((nodes, use))
        found = followed(nodes, use)
        self.assertEqual((nodes, use), kept)
        told = copy.deepcopy(found)
        nodes[1].append("more")
        nodes[2].clear()
        use[0]["c"] = 9
        self.assertEqual(found, told)
        found[0][0].append("yet")
        self.assertEqual(followed(*kept), told)

    def test_great_numbers(self):
        nodes = ("if", ("c", 0), ("d", 0), BIG, ("none", [], [("c", ("c", 0), BIG)]), ("none", [], []))
        self.assertEqual(followed(nodes, [{"c": BIG - 1}]), [([], NONE, [("c", 2 * BIG - 1)])])
        self.assertEqual(followed(nodes, [{"c": BIG}]), [([], NONE, [])])

    def test_bad_uses(self):
        bad = [([], 0), ((), 0), (None, 0), ({}, 0), ("a", 0), *[(thing, 0) for thing in ANYTHING]]
        for thing in NO_DICTS + BAD_DICTS:
            bad += [([thing], 0), ([{}, thing], 1), (({"a": 1}, {}, thing, None), 2), ([{}] * 9 + [thing], 9)]
        for use, index in bad:
            for nodes in (tree(TWO), ("none", [], [])):
                with self.assertRaises(BadUse) as caught:
                    followed(nodes, use)
                self.assertEqual(caught.exception.index, index)


class TestDownTheTree(unittest.TestCase):
    """Whoever goes down the tree by its ifs comes to the outcomes, for cells near each border."""

    def borders(self, node):
        if node[0] == "if":
            return [node[3]] + self.borders(node[4]) + self.borders(node[5])
        return self.borders(node[3]) if node[0] == "answer" else []

    def test_near_each_border(self):
        for seed in range(300):
            with self.subTest(seed=seed):
                maker = Maker(seed)
                part = Part(maker.lively_part())
                nodes = tree(part)
                near = sorted({n + by for border in self.borders(nodes) for n in (border, -border)
                               for by in (-1, 0, 1)} | {0})
                for _ in range(8):
                    use = maker.use(part.cells(), near)
                    self.assertEqual(followed(nodes, use), outcomes(part, use))


if __name__ == "__main__":
    unittest.main()

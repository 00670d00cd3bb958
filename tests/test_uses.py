"""[11]: what uses come to, and the objects that are no uses."""

import copy
import unittest

from heldback.errors import BadUse
from heldback.parts import Part
from heldback.uses import outcomes
from samples import ANYTHING, BAD_INTEGERS, BAD_NAMES, BIG

ANSWER, NONE = ("answer",), ("none",)

# Gives two answers; c is put back, n is not.
TWO = Part([("either", ["c"], [("add", "c", 5), ("say", "one")], [("say", "two")]), ("add", "n", 1)])

NO_DICTS = [None, True, False, 0, 1, BIG, "", "a", [], (), [("a", 1)], (("a", 1),), [{}], ["a"]]
BAD_DICTS = ([{"a": worth} for worth in BAD_INTEGERS + ["a", {}, {"a": 1}]]
             + [{name: 1} for name in BAD_NAMES if not isinstance(name, (list, dict))]
             + [{"a": 1, "b": None}, {"b": 1, "A": 1}, {"": 0}, {1: "a"}, {("a",): 1}])


class TestOutcomes(unittest.TestCase):

    def test_one_dict(self):
        self.assertEqual(outcomes(TWO, [{}]), [(["one"], ANSWER, [("c", 5), ("n", 1)])])
        self.assertEqual(outcomes(TWO, [{"c": -2, "n": 7}]), [(["one"], ANSWER, [("c", 3), ("n", 8)])])

    def test_as_many_as_there_are_answers(self):
        self.assertEqual(outcomes(TWO, [{"c": 1}, {"n": 10}]), [
            (["one"], ANSWER, [("c", 6), ("n", 1)]), (["two"], ANSWER, [("c", 1), ("n", 11)])])

    def test_one_more_tells_the_end(self):
        self.assertEqual(outcomes(TWO, [{"c": 1}, {}, {"c": 40}]), [
            (["one"], ANSWER, [("c", 6), ("n", 1)]), (["two"], ANSWER, [("c", 1), ("n", 2)]),
            ([], NONE, [("c", 40), ("n", 2)])])

    def test_none_behind_the_end(self):
        three = outcomes(TWO, [{}, {}, {}])
        self.assertEqual(len(three), 3)
        self.assertEqual(outcomes(TWO, [{}] * 20), three)
        self.assertEqual(outcomes(TWO, [{}, {}, {}, {"c": 9}]), three)
        self.assertEqual(outcomes(Part([("back",)]), [{}, {}]), [([], NONE, [])])
        self.assertEqual(outcomes(Part([("fault", "w")]), [{}, {}]), [([], ("fault", "w"), [])])
        self.assertEqual(outcomes(Part([]), [{}]), [([], ANSWER, [])])
        self.assertEqual(outcomes(Part([]), [{}, {}]), [([], ANSWER, []), ([], NONE, [])])

    def test_an_end_by_a_fault_behind_answers(self):
        part = Part([("say", "x"), ("either", [], [], [("say", "y"), ("add", "c", 1), ("fault", "w")])])
        self.assertEqual(outcomes(part, [{}, {"c": 3}, {"c": 9}]), [
            (["x"], ANSWER, [("c", 0)]), (["y"], ("fault", "w"), [("c", 4)])])

    def test_dicts_with_some_of_the_cells(self):
        part = Part([("either", [], [], []), ("add", "a", 1), ("add", "b", 1)])
        self.assertEqual([cells for _, _, cells in outcomes(part, [{"a": 5}, {"b": 7}, {"a": 1}])], [
            [("a", 6), ("b", 1)], [("a", 7), ("b", 8)], [("a", 1), ("b", 8)]])

    def test_further_cells(self):
        # Every outcome has every cell that any dict has, also a later one, or one behind the end.
        self.assertEqual(outcomes(TWO, [{"b": 3}, {"z": 4}, {}, {"y": 1}]), [
            (["one"], ANSWER, [("b", 3), ("c", 5), ("n", 1), ("y", 0), ("z", 0)]),
            (["two"], ANSWER, [("b", 3), ("c", 0), ("n", 2), ("y", 0), ("z", 4)]),
            ([], NONE, [("b", 3), ("c", 0), ("n", 2), ("y", 0), ("z", 4)])])
        self.assertEqual(outcomes(Part([("fault", "w")]), [{}, {"k": 2}]), [([], ("fault", "w"), [("k", 0)])])

    def test_a_dict_that_sets_a_held_cell_of_an_open_choice(self):
        part = Part([("either", ["c"], [("say", "x")], [("say", "y")]), ("copy", "d", "c", 0)])
        self.assertEqual(outcomes(part, [{"c": 3}, {"c": 8}]), [
            (["x"], ANSWER, [("c", 3), ("d", 3)]), (["y"], ANSWER, [("c", 3), ("d", 3)])])

    def test_the_dict_is_set_before_the_run_goes_back(self):
        part = Part([("either", [], [], [("copy", "d", "c", 1), ("less", "c", 5, [("say", "x")], [("say", "y")])])])
        self.assertEqual(outcomes(part, [{"c": 9}, {"c": 4}])[1], (["x"], ANSWER, [("c", 4), ("d", 5)]))
        self.assertEqual(outcomes(part, [{"c": 4}, {"c": 5}])[1], (["y"], ANSWER, [("c", 5), ("d", 6)]))
        # What it sets stays where the run ends without an answer.
        self.assertEqual(outcomes(Part([("add", "c", 1)]), [{}, {"c": 6}])[1], ([], NONE, [("c", 6)]))

    def test_words_since_the_outcome_before(self):
        part = Part([("say", "a"), ("say", "b"), ("each", [], [("either", [], [("say", "c")], [])], [("say", "d")]),
                     ("either", [], [], [("say", "a"), ("either", [], [("say", "e")], [])])])
        self.assertEqual([words for words, _, _ in outcomes(part, [{}] * 9)], [
            ["a", "b", "c", "d", "d"], ["a", "e"], [], []])

    def test_great_numbers(self):
        self.assertEqual(outcomes(TWO, [{"c": BIG}, {"n": -BIG}]), [
            (["one"], ANSWER, [("c", BIG + 5), ("n", 1)]), (["two"], ANSWER, [("c", BIG), ("n", 1 - BIG)])])

    def test_twenty_dicts(self):
        part = Part([("times", 2, [("times", 2, [("either", [], [], [])])]), ("add", "c", 1)])
        found = outcomes(part, [{"c": at} for at in range(20)])
        self.assertEqual([cells for _, _, cells in found], [[("c", at + 1)] for at in range(16)] + [[("c", 16)]])


class TestKindsOfValues(unittest.TestCase):

    def test_what_is_returned(self):
        found = outcomes(TWO, [{"c": 1}, {}, {}])
        self.assertIs(type(found), list)
        for outcome in found:
            self.assertIs(type(outcome), tuple)
            self.assertEqual([type(thing) for thing in outcome], [list, tuple, list])
            self.assertEqual({type(pair) for pair in outcome[2]}, {tuple})

    def test_what_is_returned_is_new(self):
        use = [{"c": 1}, {}, {}]
        found = outcomes(TWO, use)
        kept = copy.deepcopy(found)
        for words, _, cells in found:
            words.append("more")
            cells.append(("q", 1))
        found.clear()
        self.assertEqual(outcomes(TWO, use), kept)

    def test_a_tuple_and_names(self):
        self.assertEqual(outcomes(TWO, ({"c": 1}, {})), outcomes(TWO, [{"c": 1}, {}]))
        self.assertEqual(outcomes(use=[{"c": 1}], part=TWO), outcomes(TWO, [{"c": 1}]))

    def test_the_use_is_neither_changed_nor_kept(self):
        use = [{"c": 1}, {"z": 2}]
        kept = copy.deepcopy(use)
        found = outcomes(TWO, use)
        self.assertEqual(use, kept)
        told = copy.deepcopy(found)
        use[0]["c"] = 90
        use.pop()
        self.assertEqual(found, told)
        self.assertEqual(outcomes(TWO, kept), told)


class TestBadUses(unittest.TestCase):

    def assert_bad(self, use, index):
        for part in (TWO, Part([("fault", "w")])):
            with self.assertRaises(BadUse) as caught:
                outcomes(part, use)
            self.assertEqual(caught.exception.index, index)
            self.assertIs(type(caught.exception.index), int)

    def test_empty_or_no_list(self):
        for use in [[], (), None, True, False, 0, 1, -3, "", "a", "use", {}, {"a": 1}, {0: {"a": 1}}, *ANYTHING]:
            self.assert_bad(use, 0)

    def test_things_that_are_no_dicts(self):
        for thing in NO_DICTS:
            for use, index in (([thing], 0), ((thing, {}), 0), ([{}, thing], 1), ([{}, {"a": 1}, thing, {}], 2)):
                self.assert_bad(use, index)

    def test_dicts_that_are_not_from_names_to_integers(self):
        for thing in BAD_DICTS:
            for use, index in (([thing], 0), (({"a": 1}, thing), 1), ([{}] * 19 + [thing], 19)):
                self.assert_bad(use, index)

    def test_the_first_of_several(self):
        self.assert_bad([{}, {"a": True}, None, {"A": 1}], 1)
        self.assert_bad([None, {}, None], 0)

    def test_good_dicts(self):
        for cells in [{}, {"a": 0}, {"abcdefgh": BIG}, {"back": -BIG, "z": 1}]:
            self.assertEqual(len(outcomes(TWO, [cells])), 1)


if __name__ == "__main__":
    unittest.main()

"""[14]: parts that are alike, parts that are not, and the uses that part them."""

import copy
import itertools
import unittest

from heldback.likeness import alike, parting
from heldback.parts import Part
from heldback.uses import outcomes
from samples import BIG, NESTED, listed, steps_of_each_kind

SAY_X, SAY_Y = ("say", "x"), ("say", "y")

# Pairs of lists of steps that do the same in every use.
SAME = [
    ([], []),
    ([], [("hole",)]),
    ([SAY_X], [("hole",), SAY_X, ("hole",)]),
    ([], [("add", "c", 0)]),
    ([], [("add", "c", 5), ("add", "c", -5)]),
    ([], [("copy", "c", "c", 0)]),
    ([], [("times", 0, [SAY_X, ("fault", "w")])]),
    ([], [("times", 3, [])]),
    ([SAY_X], [("times", 1, [SAY_X])]),
    ([SAY_X, SAY_X, SAY_X], [("times", 3, [SAY_X])]),
    ([SAY_X, ("fault", "w")], [("last", [SAY_X, ("fault", "w")], [])]),
    ([SAY_X, ("fault", "w")], [("last", [("fault", "w")], [SAY_X])]),
    ([SAY_X, SAY_Y], [("last", [SAY_X], [SAY_Y])]),
    ([SAY_X], [("last", [], [SAY_X])]),
    ([("fault", "v")], [("catch", "w", ["c"], [("fault", "v")], [SAY_X])]),
    ([SAY_X], [("catch", "w", ["c"], [SAY_X], [SAY_Y])]),
    ([SAY_X], [("catch", "w", ["c"], [("add", "c", 1), ("fault", "w")], [SAY_X])]),
    ([SAY_X], [("either", ["c"], [("add", "c", 1), ("back",)], [SAY_X])]),
    ([SAY_X], [("either", [], [SAY_X], [("back",)])]),
    ([SAY_X], [("whether", ["c"], [("add", "c", 1), ("back",)], [SAY_Y], [SAY_X])]),
    ([SAY_X], [("whether", ["c"], [("either", [], [], [SAY_Y])], [SAY_X], [SAY_Y])]),
    ([], [("each", ["c"], [("add", "c", 1)], [("add", "c", 2)])]),
    ([("set", "c", 4)], [("set", "c", 3), ("set", "c", 4)]),
    ([("set", "c", 4)], [("add", "c", 3), ("set", "c", 4)]),
    ([("set", "c", 4)], [("set", "c", 1), ("add", "c", 3)]),
    ([("copy", "c", "d", 4)], [("copy", "c", "d", 1), ("add", "c", 3)]),
    ([("set", "c", 4), SAY_X], [("set", "c", 4), ("less", "c", 5, [SAY_X], [SAY_Y])]),
    ([("set", "c", 4), SAY_Y], [("set", "c", 4), ("less", "c", 4, [SAY_X], [SAY_Y])]),
    ([SAY_X], [("below", "c", "c", 1, [SAY_X], [SAY_Y])]),
    ([SAY_X], [("less", "c", 3, [SAY_X], [SAY_X])]),
    ([("less", "c", 3, [SAY_X], [SAY_Y])], [("less", "c", 3, [("less", "c", 4, [SAY_X], [SAY_Y])], [SAY_Y])]),
    ([("less", "c", 3, [SAY_X], [SAY_Y])], [("add", "c", 2), ("less", "c", 5, [SAY_X], [SAY_Y]), ("add", "c", -2)]),
    ([("less", "c", 3, [SAY_X], [SAY_Y])],
     [("less", "c", 1, [SAY_X], [("less", "c", 3, [SAY_X], [SAY_Y])])]),
    ([("below", "c", "d", 0, [SAY_X], [SAY_Y])], [("below", "d", "c", 1, [SAY_Y], [SAY_X])]),
    # What a test leaves as the one value that a cell can have.
    ([], [("less", "c", 1, [("less", "c", 0, [], [("set", "c", 0)])], [])]),
    ([], [("below", "c", "d", 0, [], [("below", "d", "c", 0, [], [("copy", "c", "d", 0)])])]),
    *[([end], [("less", "c", 1, [("less", "c", 0, [], [("set", "c", 0)])], []), end])
      for end in (("back",), ("fault", "w"))],
    ([("less", "c", 8, [("less", "c", 7, [], [("set", "d", 9)])], [])],
     [("less", "c", 8, [("less", "c", 7, [], [("copy", "d", "c", 2)])], [])]),
    # The same tests in another order.
    ([("less", "c", 3, [("less", "d", 4, [SAY_X], [SAY_Y])], [SAY_Y])],
     [("less", "d", 4, [("less", "c", 3, [SAY_X], [SAY_Y])], [SAY_Y])]),
    # Three cells that cannot be one below the other in a ring.
    ([("below", "a", "b", 0, [("below", "b", "c", 0, [SAY_X], [])], [])],
     [("below", "a", "b", 0, [("below", "b", "c", 0, [("below", "c", "a", 0, [SAY_Y], [SAY_X])], [])], [])]),
    # Cells that one of the two does not name.
    ([("add", "a", 0)], [("catch", "w", ["b"], [], [])]),
    ([("set", "a", 1)], [("copy", "b", "b", 0), ("set", "a", 1), ("less", "d", 4, [], [])]),
    ([("each", [], [("either", [], [SAY_X], [SAY_Y])], [SAY_X])], [SAY_X, SAY_X, SAY_Y, SAY_X]),
    ([("set", "c", 3), ("either", ["c"], [("add", "c", 1)], [])],
     [("either", [], [("set", "c", 4)], [("set", "c", 3)])]),
]


def behind_answers(many, steps):
    """Steps that are done behind this number of answers."""
    for _ in range(many):
        steps = [("either", [], [], steps)]
    return steps


# Triples of two lists of steps and the number of the first outcome at which they can differ.
UNLIKE = [
    ([SAY_X], [SAY_Y], 1),
    ([SAY_X], [], 1),
    ([SAY_X, SAY_Y], [SAY_Y, SAY_X], 1),
    ([SAY_X], [SAY_X, SAY_X], 1),
    ([("set", "c", 0)], [], 1),
    ([("set", "c", BIG)], [("set", "c", BIG - 1)], 1),
    ([("add", "c", 1)], [("add", "c", 2)], 1),
    ([("add", "c", 1)], [("add", "d", 1)], 1),
    ([("set", "c", 1)], [("add", "c", 1)], 1),
    ([("copy", "c", "d", 0)], [("copy", "d", "c", 0)], 1),
    ([("copy", "c", "d", 0)], [("copy", "c", "e", 0)], 1),
    ([("fault", "w")], [("fault", "v")], 1),
    ([("fault", "w")], [("back",)], 1),
    ([("back",)], [], 1),
    ([], [("either", [], [], [])], 2),
    ([], [("fault", "w")], 1),
    ([("less", "c", 3, [SAY_X], [])], [("less", "c", 4, [SAY_X], [])], 1),
    ([("less", "c", BIG, [SAY_X], [])], [("less", "c", 1 - BIG, [SAY_X], [])], 1),
    ([("less", "c", BIG, [SAY_X], [])], [("less", "c", BIG - 1, [SAY_X], [])], 1),
    ([("below", "c", "d", 3, [SAY_X], [])], [("below", "c", "d", 4, [SAY_X], [])], 1),
    ([("below", "c", "d", 0, [SAY_X], [SAY_Y])], [("below", "d", "c", 0, [SAY_Y], [SAY_X])], 1),
    ([("catch", "w", ["c"], [("add", "c", 1), ("fault", "w")], [])],
     [("catch", "w", [], [("add", "c", 1), ("fault", "w")], [])], 1),
    # Only for a cell between two borders, or that is just one number.
    ([], [("less", "c", 9, [("less", "c", 5, [], [SAY_X])], [])], 1),
    ([], [("less", "c", BIG, [("less", "c", BIG - 1, [], [SAY_X])], [])], 1),
    ([], [("less", "c", -5, [("less", "c", -6, [], [("add", "c", 1)])], [])], 1),
    ([], [("less", "c", 1, [("less", "c", 0, [], [("set", "c", 1)])], [])], 1),
    ([], [("below", "c", "d", 4, [("below", "c", "d", 3, [], [("back",)])], [])], 1),
    ([("less", "c", 3, [("set", "d", 0)], [("set", "d", 1)])], [("less", "c", 3, [("set", "d", 0)], [])], 1),
    # A cell that is told in two ways but is always the same, and behind it one that is not.
    ([("less", "c", 1, [("less", "c", 0, [("back",)], [])], [("back",)])],
     [("less", "c", 1, [("less", "c", 0, [("back",)], [("set", "c", 0), ("add", "d", 1)])], [("back",)])], 1),
    # Held cells: the one that a choice puts back is another one, or is not put back.
    ([("either", ["c"], [("add", "c", 1)], [])], [("either", [], [("add", "c", 1)], [])], 2),
    ([("either", ["c"], [], [])], [("either", [], [], [])], 2),
    ([("either", ["c"], [], [])], [("either", ["d"], [], [])], 2),
    ([("either", ["c", "d"], [], [])], [("either", ["d"], [], [])], 2),
    ([("whether", ["c"], [("add", "c", 1), ("back",)], [], [])],
     [("whether", [], [("add", "c", 1), ("back",)], [], [])], 1),
    ([("each", ["c"], [("add", "c", 1)], [])], [("each", [], [("add", "c", 1)], [])], 1),
    # Only behind the second, the third or a later answer.
    *[(behind_answers(many, [SAY_X]), behind_answers(many, [SAY_Y]), many + 1) for many in range(1, 5)],
    *[(behind_answers(many, [("fault", "w")]), behind_answers(many, [("back",)]), many + 1) for many in range(1, 5)],
    *[(behind_answers(many, []), behind_answers(many + 1, []), many + 2) for many in range(4)],
    *[(behind_answers(many, [("add", "c", 1)]), behind_answers(many, [("add", "c", 2)]), many + 1)
      for many in range(5)],
    (behind_answers(2, [("less", "c", 4, [("less", "c", 3, [], [SAY_X])], [])]), behind_answers(2, []), 3),
    # Only beside a test ahead of a choice: what it found is known there through a held cell, or by what is done next.
    ([("less", "c", 3, [("either", [], [], [SAY_X])], [("either", [], [], [SAY_Y])])],
     [("either", [], [], [("less", "c", 3, [SAY_X], [SAY_Y])])], 2),
    ([("less", "c", 3, [("either", [], [], [SAY_X])], [("either", [], [], [SAY_Y])])],
     [("less", "c", 3, [("either", [], [], [SAY_Y])], [("either", [], [], [SAY_X])])], 2),
    ([("less", "c", 3, [("either", ["c"], [], [("less", "c", 2, [], [SAY_X])])], [("either", ["c"], [], [])])],
     [("either", ["c"], [], [])], 2),
    # Two differences: the one at the earlier outcome counts, also where a later one comes first on the way down.
    ([("less", "c", 0, [("either", [], [], [SAY_X])], [("less", "c", 1, [SAY_Y], [])])],
     [("less", "c", 0, [("either", [], [], [SAY_Y])], [("less", "c", 1, [SAY_X], [])])], 1),
    ([("less", "c", 0, [("less", "c", -1, [SAY_Y], [])], [("either", [], [], [SAY_X])])],
     [("less", "c", 0, [("less", "c", -1, [SAY_X], [])], [("either", [], [], [SAY_Y])])], 1),
    ([("less", "c", 0, behind_answers(3, [SAY_X]), behind_answers(2, [SAY_X]))],
     [("less", "c", 0, behind_answers(3, [SAY_Y]), behind_answers(2, [SAY_Y]))], 3),
    ([("less", "c", 0, behind_answers(2, [SAY_X]), behind_answers(3, [SAY_X]))],
     [("less", "c", 0, behind_answers(2, [SAY_Y]), behind_answers(3, [SAY_Y]))], 3),
    ([("either", ["c"], [], []), ("below", "c", "d", 0, [SAY_X], [])],
     [("either", [], [], []), ("below", "c", "d", 0, [SAY_X], [])], 2),
]


def without_others(found, cells):
    """The outcomes with these cells alone."""
    return [(words, end, [pair for pair in pairs if pair[0] in cells]) for words, end, pairs in found]


class TestAlike(unittest.TestCase):

    def assert_alike(self, one, other):
        for first, second in ((one, other), (other, one)):
            self.assertIs(alike(first, second), True)
            self.assertIsNone(parting(first, second))

    def assert_parted(self, one, other, many):
        cells = {*one.cells(), *other.cells()}
        for first, second in ((one, other), (other, one)):
            self.assertIs(alike(first, second), False)
            use = parting(first, second)
            self.assertIs(type(use), list)
            self.assertEqual({type(setting) for setting in use}, {dict})
            self.assertEqual(len(use), many)
            tales = [without_others(outcomes(part, use), cells) for part in (first, second)]
            self.assertEqual([len(tale) for tale in tales], [many, many])
            self.assertEqual(tales[0][:-1], tales[1][:-1])
            self.assertNotEqual(tales[0][-1], tales[1][-1])

    def test_same(self):
        for one, other in SAME:
            with self.subTest(one=one, other=other):
                self.assert_alike(Part(one), Part(other))
                self.assert_alike(Part(listed(one)), Part(other))

    def test_unlike(self):
        for one, other, many in UNLIKE:
            with self.subTest(one=one, other=other):
                self.assert_parted(Part(one), Part(other), many)

    def test_no_shorter_use_parts(self):
        worths = (-7, -6, -1, 0, 1, 2, 3, 5)
        for one, other, many in UNLIKE:
            first, second = Part(one), Part(other)
            cells = sorted({*first.cells(), *second.cells()})
            if many > 1 and len(cells) * (many - 1) <= 3:
                with self.subTest(one=one, other=other):
                    settings = [dict(zip(cells, row)) for row in itertools.product(worths, repeat=len(cells))]
                    for use in itertools.product(settings, repeat=many - 1):
                        self.assertEqual(without_others(outcomes(first, use), cells),
                                         without_others(outcomes(second, use), cells))

    def test_a_part_with_itself(self):
        self.assert_alike(Part(NESTED), Part(NESTED))
        for step in steps_of_each_kind().values():
            self.assert_alike(Part([step]), Part([step]))

    def test_words_that_stand_in_a_later_outcome(self):
        # The same words in all, but at other outcomes.
        one = Part([("either", [], [SAY_X], [SAY_Y])])
        other = Part([("either", [], [SAY_X, SAY_Y], [])])
        self.assert_parted(one, other, 1)

    def test_more_or_fewer_answers(self):
        for many in range(5):
            for more in range(5):
                one, other = Part(behind_answers(many, [])), Part(behind_answers(more, []))
                if many == more:
                    self.assert_alike(one, other)
                else:
                    self.assert_parted(one, other, min(many, more) + 2)

    def test_unlike_cells(self):
        self.assert_parted(Part([("set", "c", 1)]), Part([("set", "d", 1)]), 1)
        self.assert_alike(Part([("less", "a", 0, [], [])]), Part([("less", "b", 5, [], [])]))
        self.assert_parted(Part([("less", "a", 0, [SAY_X], [])]), Part([("less", "b", 0, [SAY_X], [])]), 1)
        self.assert_alike(Part([("catch", "w", ["a", "b"], [], [])]), Part([("add", "k", 0)]))
        # Neither names a cell: the dicts may be empty.
        self.assert_parted(Part([("either", [], [], [SAY_X])]), Part([("either", [], [], [SAY_Y])]), 2)

    def test_a_cell_that_only_one_names_and_a_choice_puts_back(self):
        one = Part([("either", ["c"], [SAY_X], [SAY_Y])])
        other = Part([("either", [], [SAY_X], [SAY_Y])])
        self.assert_parted(one, other, 2)
        use = parting(one, other)
        found = [dict(outcomes(part, use)[1][2])["c"] for part in (one, other)]
        self.assertNotEqual(found[0], found[1])

    def test_saves_that_are_needed_only_together(self):
        ends = [("below", "c", "d", 0, [SAY_X], [SAY_Y]), ("set", "c", 0), ("set", "d", 0)]
        body = [("add", "c", 5), ("add", "d", 5), ("back",)]
        parts = {held: Part([("either", list(held), body, [])] + ends) for held in ("", "c", "d", "cd")}
        self.assert_alike(parts["cd"], parts[""])
        self.assert_parted(parts["cd"], parts["c"], 1)
        self.assert_parted(parts["cd"], parts["d"], 1)
        self.assert_parted(parts["c"], parts["d"], 1)

    def test_the_arguments(self):
        one, other = Part([SAY_X]), Part([SAY_Y])
        self.assertIs(alike(one=one, other=other), False)
        self.assertIs(alike(other=Part([SAY_X]), one=one), True)
        self.assertEqual(len(parting(other=other, one=one)), 1)
        self.assertEqual((one, other), (Part([SAY_X]), Part([SAY_Y])))

    def test_what_is_returned_is_new(self):
        one, other = Part([("less", "c", 3, [SAY_X], [])]), Part([("less", "c", 4, [SAY_X], [])])
        first = parting(one, other)
        kept = copy.deepcopy(first)
        first[0]["c"] = 99
        first.append({})
        self.assertEqual(parting(one, other), kept)

    def test_the_same_at_each_time(self):
        for one, other, _ in UNLIKE:
            self.assertEqual(parting(Part(one), Part(other)), parting(Part(one), Part(other)))


def says_of(cell, at):
    """A test that says which way it goes."""
    return ("less", cell, at, [("say", cell + "y")], [("say", cell + "n")])


class TestAtTheLimits(unittest.TestCase):

    def check(self, one, other, many):
        first, second = Part(one), Part(other)
        use = parting(first, second)
        self.assertEqual(None if use is None else len(use), many)
        self.assertIs(alike(second, first), many is None)

    def counting(self, cell, at):
        return ("less", cell, at, [("add", "z", 1)], [("add", "z", 2)])

    def test_eight_tests(self):
        tests = [self.counting(cell, 0) for cell in "abcdefgh"]
        self.check(tests, tests[::-1], None)
        self.check(tests, tests[1:] + tests[:1], None)
        self.check(tests, tests[:-1] + [self.counting("h", 1)], 1)
        self.check(tests, tests[:-1] + [self.counting("g", 0)], 1)
        says = [says_of(cell, 0) for cell in "abcdefgh"]
        self.check(says, says[::-1], 1)
        self.check(says, says[:-1] + [says_of("h", BIG)], 1)

    def test_eight_tests_of_one_cell(self):
        up = [self.counting("c", at) for at in range(8)]
        self.check(up, up[::-1], None)
        self.check(up, [self.counting("c", at) for at in (0, 1, 2, 3, 4, 5, 6, 8)], 1)

    def test_eight_tests_of_cells_in_a_chain(self):
        def below(one, other):
            return ("below", one, other, 0, [("add", "z", 1)], [("add", "z", 2)])

        chain = [below(one, other) for one, other in zip("abcdefgh", "bcdefghi")]
        self.check(chain, chain[::-1], None)
        self.check(chain, chain[:-1] + [below("h", "a")], 1)

    def test_tests_that_do_nothing(self):
        def idle(cell):
            return ("less", cell, 1, [("less", cell, 0, [], [("set", cell, 0)])], [])

        self.check([idle(cell) for cell in "abcd"], [idle(cell) for cell in "efgh"], None)
        self.check([("either", [], [], []), idle("a"), idle("b")], [("either", [], [], []), idle("e"), idle("f")], None)
        self.check([idle(cell) for cell in "abcd"], [idle(cell) for cell in "efg"] + [("less", "k", 1, [SAY_X], [])], 1)

    def test_sixteen_answers(self):
        choices = [("either", ["a"], [("add", "a", 1)], [("add", "b", 1)])] * 4
        self.check(choices, choices, None)
        self.check([*choices, SAY_X], [("times", 2, choices[:2]), SAY_X], None)
        self.check(choices, choices[:3] + [("either", ["b"], [("add", "a", 1)], [("add", "b", 1)])], 2)
        last = ("either", ["a"], [("add", "a", 1)], [("add", "b", 1), SAY_X])
        self.check(choices, choices[:3] + [last], 2)
        self.check(choices, [last] + choices[:3], 9)
        # The second half of the answers has another cell.
        three = [("either", [], [], [])] * 3
        self.check([("either", [], [], [])] + three, [("either", [], three, three + [("set", "b", 0)])], 9)

    def test_the_sixteenth_answer_alone(self):
        held = ["p", "q", "r", "s"]

        def both(cell, step):
            return ("either", held, [("set", cell, 0)], [step])

        # s gets to 1 only where all four choices have gone their second way.
        ahead = [both("p", ("set", "p", 1)), both("q", ("copy", "q", "p", 0)), both("r", ("copy", "r", "q", 0))]
        one, other = ahead + [both("s", ("copy", "s", "r", 0))], ahead + [both("s", ("set", "s", 0))]
        self.check(one, other, 16)
        self.check(one + [("copy", "s", "s", 0)], one, None)
        self.check(one + [("set", "s", 0)], other, None)

    def test_the_eighth_answer_alone(self):
        count = [("set", "a", 0)] + [("either", ["a"], [], [("add", "a", 1)])] * 3
        ends = [[("less", "a", 3, [SAY_X], [("say", word)]), ("set", "a", 0)] for word in ("p", "q")]
        self.check(count + ends[0], count + ends[1], 8)

    def test_choices_and_tests(self):
        for many in (1, 2, 3):
            choices = [("either", ["a"], [("add", "a", 1)], [])] * many
            tests = [self.counting(cell, 0) for cell in "abcdefgh"[:8 >> many]]
            self.check(choices + tests, choices + tests[::-1], None)
            other = tests[:-1] + [self.counting("abcdefgh"[len(tests) - 1], 1)]
            self.check(choices + tests, choices + other, 1)
            self.check(tests + choices, tests[::-1] + choices, None)
            self.check(tests + choices, other + choices, 1)

    def test_eighty_steps(self):
        steps = [("times", 3, [("add", "c", 1)] * 25), ("less", "c", 75, [SAY_X], [SAY_Y])]
        self.check(steps, [("add", "c", 75), steps[1]], None)
        self.check(steps, [("add", "c", 75), ("less", "c", 76, [SAY_X], [SAY_Y])], 1)

    def test_great_numbers(self):
        def between(low, high):
            return [("below", "a", "b", high, [("below", "a", "b", low, [], [SAY_X])], [])]

        self.check(between(BIG - 1, BIG), [], 1)
        self.check(between(BIG, BIG), [], None)
        self.check(between(BIG, -BIG), [], None)
        self.check(between(-BIG, 1 - BIG), [], 1)
        far = [("add", "a", BIG), ("add", "a", BIG), ("less", "a", -BIG, [SAY_X], []), ("set", "a", 0)]
        self.check(far, [("set", "a", 0)], 1)


if __name__ == "__main__":
    unittest.main()

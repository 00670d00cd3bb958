"""[21], [22]: tables, what they do to parts, and which of their squares matter."""

import itertools
import unittest

from heldback.errors import NoSquare, NotName, NotTruth, NoWay, Uneven, UnlikeTables
from heldback.likeness import alike
from heldback.parts import Part
from heldback.tables import Table, by_table, matters, table_of
from samples import ANYTHING, BAD_NAMES, BIG, GOOD_NAMES, NESTED, listed, tupled

SAY_X, SAY_Y, BACK = ("say", "x"), ("say", "y"), ("back",)
CELLS, WAYS = ["b", "c", "d"], ["back", "c", "w"]
ALL = [(cell, way) for cell in CELLS for way in WAYS]
SOME = [("b", "w"), ("c", "back"), ("d", "back"), ("d", "c")]
OTHERS = [("b", "c"), ("c", "back"), ("d", "c"), ("d", "w")]
# No squares of a table with these cells and ways, whatever stands in it.
NO_SQUARES = [
    *ANYTHING, 0, 5, BIG, "b", "bw", "back", {}, {"b": "w"}, ("b",), ("b", "w", "c"), ("w", "b"), ("back", "c"), ("b", "d"),
    ("a", "w"), ("b", "v"), ("b", "W"), ("B", "w"), (["b"], "w"), ("b", ["w"]), (("b", "w"),), ("b", None), (None, "w"),
    (0, 0), (True, False), ("b", 0), ({}, "w"), ("b", {}), ["b", "x"], [[], []], [("b", "w"), ("c", "back")], ("", ""),
    (("b",), "w"), ["b", "w", None],
]


def table(squares=SOME):
    return Table(CELLS, WAYS, squares)


def told(one):
    return one.cells(), one.ways(), one.squares()


class TestMaking(unittest.TestCase):

    def check(self, arguments, expected):
        found = told(Table(*arguments))
        self.assertEqual(found, expected)
        self.assertTrue(all(type(row) is list for row in found))
        self.assertTrue(all(type(square) is tuple for square in found[2]))

    def test_any_order_and_several_times(self):
        for cells in itertools.permutations(["b", "c", "d", "b"]):
            for ways in (["w", "c", "back"], ("c", "back", "w", "c"), ["back", "w", "c", "back", "back"]):
                self.check((cells, ways, SOME), (CELLS, WAYS, SOME))
                self.check((list(cells), ways, SOME[::-1] + SOME[:2]), (CELLS, WAYS, SOME))

    def test_no_squares_at_first(self):
        self.check((CELLS, WAYS), (CELLS, WAYS, []))
        self.check(([], []), ([], [], []))
        self.check((["c"], []), (["c"], [], []))
        self.check(([], ["w"]), ([], ["w"], []))
        self.assertEqual(len(Table(CELLS, WAYS)), 0)

    def test_a_name_that_is_a_cell_and_a_way(self):
        self.check((["c", "back"], ["back", "c"], [("c", "c"), ("back", "back")]),
                   (["back", "c"], ["back", "c"], [("back", "back"), ("c", "c")]))
        one = Table(["c", "w"], ["c", "w"], [("c", "w")])
        self.assertEqual((one["c", "w"], one["w", "c"], one["c", "c"]), (True, False, False))

    def test_any_name(self):
        for name in GOOD_NAMES:
            self.check(([name], ["w"], [(name, "w")]), ([name], ["w"], [(name, "w")]))
            self.check((["c"], [name], [("c", name)]), (["c"], [name], [("c", name)]))

    def test_lists_and_tuples(self):
        expected = told(table())
        self.check((tuple(CELLS), tuple(WAYS), tuple(SOME)), expected)
        self.check((CELLS, WAYS, listed(SOME)), expected)
        self.check((CELLS, WAYS, tupled(SOME)), expected)

    def test_by_name(self):
        self.assertEqual(Table(squares=SOME, ways=WAYS, cells=CELLS), table())
        self.assertEqual(Table(ways=WAYS, cells=CELLS), table([]))

    def test_what_is_no_name(self):
        for key in BAD_NAMES:
            with self.subTest(key=key):
                for arguments in (([key], WAYS), (CELLS + [key, None], WAYS + [0]), (CELLS, [key]), (CELLS, WAYS + [key, 1]),
                                  ((key,), ()), ([], (key,)), (CELLS, [*WAYS, key], [None]), ([key], WAYS, [None])):
                    with self.assertRaises(NotName) as held:
                        Table(*arguments)
                    self.assertEqual(held.exception.key, key)

    def test_what_is_no_square(self):
        for square in NO_SQUARES:
            with self.subTest(square=square):
                for squares in ([square], SOME + [square, None], (square, "b")):
                    with self.assertRaises(NoSquare) as held:
                        Table(CELLS, WAYS, squares)
                    self.assertEqual(held.exception.square, square)
                for cells, ways in (([], []), (CELLS, []), ([], WAYS)):
                    with self.assertRaises(NoSquare):
                        Table(cells, ways, [square])

    def test_arguments_are_copied(self):
        cells, ways, squares = list(CELLS), list(WAYS), listed(SOME)
        one = Table(cells, ways, squares)
        self.assertEqual((cells, ways, squares), (CELLS, WAYS, listed(SOME)))
        cells.append("z")
        ways.clear()
        squares[0][1] = "back"
        squares.append(("b", "back"))
        self.assertEqual(told(one), (CELLS, WAYS, SOME))

    def test_returned_lists_are_new_ones(self):
        one = table()
        for _ in range(2):
            for row in told(one):
                row.append("z")
                row.reverse()
        self.assertEqual(told(one), (CELLS, WAYS, SOME))


class TestSquares(unittest.TestCase):

    def test_items(self):
        one = table()
        for square in ALL:
            for key in (square, list(square)):
                self.assertIs(one[key], square in SOME)
                self.assertIs(key in one, square in SOME)
            cell, way = square
            self.assertIs(one[cell, way], square in SOME)
        self.assertEqual(len(one), len(SOME))

    def test_what_is_no_square(self):
        one = table()
        for thing in NO_SQUARES:
            with self.subTest(thing=thing):
                with self.assertRaises(NoSquare) as held:
                    one[thing]
                self.assertEqual(held.exception.square, thing)
                for value in (True, False, None, 1):
                    with self.assertRaises(NoSquare) as held:
                        one[thing] = value
                    self.assertEqual(held.exception.square, thing)
                self.assertIs(thing in one, False)
                self.assertIs(thing not in one, True)
        self.assertEqual(told(one), (CELLS, WAYS, SOME))

    def test_an_error_keeps_what_was_passed(self):
        thing = ["b", ["w"]]
        with self.assertRaises(NoSquare) as held:
            table()[thing]
        thing[1].append("v")
        self.assertEqual(held.exception.square, ["b", ["w"]])

    def test_setting(self):
        for square in ALL:
            for value in (True, False):
                for key in (square, list(square)):
                    one = table()
                    one[key] = value
                    expected = sorted({*SOME} - {square} | ({square} if value else set()))
                    self.assertEqual(one.squares(), expected)
                    self.assertEqual(len(one), len(expected))
                    self.assertIs(one[key], value)
                    self.assertIs(key in one, value)
        one = Table(CELLS, WAYS)
        for many, square in enumerate(ALL[::-1], start=1):
            one[square] = True
            one[square] = True
            self.assertEqual(one.squares(), sorted(ALL[-many:]))
        self.assertEqual(one, Table(CELLS, WAYS, ALL))

    def test_what_is_neither_true_nor_false(self):
        one = table()
        for value in (None, 0, 1, -1, "", "True", [], (), [True], {}, {True: True}, BIG):
            for square in (ALL[0], SOME[0]):
                with self.assertRaises(NotTruth) as held:
                    one[square] = value
                self.assertEqual(held.exception.value, value)
                self.assertIs(type(held.exception.value), type(value))
        self.assertEqual(told(one), (CELLS, WAYS, SOME))

    def test_twin(self):
        one = table()
        other = one.twin()
        self.assertIs(type(other), Table)
        self.assertIsNot(other, one)
        self.assertEqual(told(other), told(one))
        other["b", "back"] = True
        self.assertIs(one["b", "back"], False)
        one["c", "back"] = False
        self.assertIs(other["c", "back"], True)
        empty = Table(["c"], []).twin()
        self.assertEqual(told(empty), (["c"], [], []))


class TestEqual(unittest.TestCase):

    def test_equal_tables(self):
        one = table()
        for other in (table(), Table(CELLS[::-1] * 2, WAYS[::-1], SOME[::-1]), one.twin(), one):
            self.assertTrue(one == other)
            self.assertFalse(one != other)

    def test_other_tables(self):
        one = table()
        for other in (table(SOME[:-1]), table(OTHERS), table([]), Table(CELLS + ["e"], WAYS, SOME), table(ALL),
                      Table(CELLS, WAYS + ["v"], SOME), Table(["b", "c", "e"], WAYS), Table([], [])):
            self.assertFalse(one == other)
            self.assertTrue(one != other)
            self.assertFalse(other == one)
        self.assertNotEqual(Table(["c"], []), Table([], ["c"]))
        self.assertNotEqual(Table(["c"], []), Table(["d"], []))
        self.assertNotEqual(Table([], ["c"]), Table([], ["d"]))

    def test_a_table_equals_nothing_else(self):
        one = table()
        for other in (SOME, tuple(SOME), told(one), None, 4, "table", {}, {square: True for square in SOME}, Part([]), True):
            self.assertFalse(one == other)
            self.assertFalse(other == one)
            self.assertTrue(one != other)
        self.assertFalse(Table([], []) == [])
        self.assertFalse(Table([], []) == 0)


class TestOperators(unittest.TestCase):

    def new(self, one, sign, other):
        if sign == "|":
            return one | other
        if sign == "&":
            return one & other
        return one - other if sign == "-" else one ^ other

    def in_place(self, one, sign, other):
        if sign == "|":
            one |= other
        elif sign == "&":
            one &= other
        elif sign == "-":
            one -= other
        else:
            one ^= other
        return one

    def expected(self, squares, sign, others):
        one, other = set(squares), set(others)
        made = {"|": one | other, "&": one & other, "-": one - other, "^": one ^ other}
        return sorted(made[sign])

    def test_each_operator(self):
        choices = [[], SOME, OTHERS, ALL, SOME[:1], ALL[3:]]
        for squares, others in itertools.product(choices, repeat=2):
            for sign in "|&-^":
                with self.subTest(sign, squares=squares, others=others):
                    one, other = table(squares), table(others)
                    expected = self.expected(squares, sign, others)
                    found = self.new(one, sign, other)
                    self.assertIs(type(found), Table)
                    self.assertEqual(told(found), (CELLS, WAYS, expected))
                    self.assertEqual((one.squares(), other.squares()), (sorted(squares), sorted(others)))
                    # A new table goes its own way.
                    found["b", "back"] = ("b", "back") not in found
                    self.assertEqual((one.squares(), other.squares()), (sorted(squares), sorted(others)))
                    again = self.in_place(one, sign, other)
                    self.assertIs(again, one)
                    self.assertEqual(told(one), (CELLS, WAYS, expected))
                    self.assertEqual(other.squares(), sorted(others))
                    one["b", "back"] = ("b", "back") not in one
                    self.assertEqual(other.squares(), sorted(others))

    def test_the_forms_in_place_keep_the_object(self):
        for sign in "|&-^":
            one = table()
            same = one
            one = self.in_place(one, sign, table(OTHERS))
            self.assertEqual(same.squares(), self.expected(SOME, sign, OTHERS))

    def test_a_table_with_itself(self):
        for sign in "|&-^":
            one = table()
            self.assertEqual(self.new(one, sign, one).squares(), self.expected(SOME, sign, SOME))
            self.assertEqual(one, table())
            one = self.in_place(one, sign, one)
            self.assertEqual(one.squares(), self.expected(SOME, sign, SOME))

    def test_within(self):
        for squares, others in itertools.product([[], SOME, SOME[:2], SOME[1:], OTHERS, ALL], repeat=2):
            one, other = table(squares), table(others)
            self.assertIs(one.within(other), {*squares} <= {*others})
            self.assertIs(one.within(other=other), {*squares} <= {*others})
            self.assertEqual((one.squares(), other.squares()), (sorted(squares), sorted(others)))

    def test_unlike_tables(self):
        one = table()
        for cells, ways in ((CELLS[1:], WAYS), (CELLS + ["e"], WAYS), (CELLS, WAYS[1:]), (CELLS, WAYS + ["v"]), ([], []),
                            (CELLS[:2] + ["e"], WAYS), (CELLS, ["back", "c", "x"]), (WAYS, CELLS), (CELLS, []), ([], WAYS)):
            other = Table(cells, ways)
            for first, second in ((one, other), (other, one)):
                for sign in "|&-^":
                    for work in (self.new, self.in_place):
                        with self.assertRaises(UnlikeTables):
                            work(first, sign, second)
                with self.assertRaises(UnlikeTables):
                    first.within(second)
                self.assertEqual((told(one), other.squares()), ((CELLS, WAYS, SOME), []))
        for first, second in itertools.combinations([Table(["c"], []), Table(["d"], []), Table([], []), Table([], ["c"])], 2):
            with self.assertRaises(UnlikeTables):
                first | second
            with self.assertRaises(UnlikeTables):
                first.within(second)

    def test_tables_without_squares(self):
        for cells, ways in ((["c"], []), ([], ["w"]), ([], [])):
            one, other = Table(cells, ways), Table(cells, ways)
            for sign in "|&-^":
                self.assertEqual(self.new(one, sign, other), one)
            self.assertIs(one.within(other), True)

    def test_what_is_no_table(self):
        for other in (SOME, None, 1, {}, Part([])):
            for sign in "|&-^":
                for work in (self.new, self.in_place):
                    one = table()
                    with self.assertRaises(TypeError):
                        work(one, sign, other)
                    self.assertEqual(one, table())


# All ways of one of its steps are "w" or "back".
MIXED = [
    ("either", ["c"], [("whether", [], [("each", ["b", "a"], [("catch", "w", ["d"], [], [])], [])], [], [])], []),
    ("catch", "v", [], [("last", [("either", ["e"], [], [])], [("times", 2, [("catch", "w", ["c", "b"], [], [])])])],
     [("less", "c", 1, [("each", [], [], [])], [("below", "c", "d", 1, [("whether", ["q"], [], [], [])], [])])]),
]


class TestByTable(unittest.TestCase):

    def test_each_kind_of_step(self):
        one = Table(["d", "b", "c"], ["back", "w"], [("d", "back"), ("b", "back"), ("c", "w"), ("b", "w")])
        for steps, expected in (
            ([("either", ["c"], [SAY_X], [SAY_Y])], [("either", ["b", "d"], [SAY_X], [SAY_Y])]),
            ([("whether", [], [SAY_X], [SAY_Y], [BACK])], [("whether", ["b", "d"], [SAY_X], [SAY_Y], [BACK])]),
            ([("each", ["d", "b"], [SAY_X], [SAY_Y])], [("each", ["b", "d"], [SAY_X], [SAY_Y])]),
            ([("catch", "w", ["a"], [SAY_X], [SAY_Y])], [("catch", "w", ["b", "c"], [SAY_X], [SAY_Y])]),
        ):
            self.assertEqual(by_table(Part(steps), one), Part(expected))
            self.assertEqual(by_table(table=one, part=Part(steps)), Part(expected))

    def test_nested(self):
        one = Table(["a", "b"], ["back", "v", "w", "u"], [("b", "back"), ("a", "back"), ("a", "v")])
        self.assertEqual(by_table(Part(MIXED), one), Part([
            ("either", ["a", "b"], [("whether", ["a", "b"], [
                ("each", ["a", "b"], [("catch", "w", [], [], [])], [])], [], [])], []),
            ("catch", "v", ["a"], [("last", [("either", ["a", "b"], [], [])], [("times", 2, [("catch", "w", [], [], [])])])],
             [("less", "c", 1, [("each", ["a", "b"], [], [])],
               [("below", "c", "d", 1, [("whether", ["a", "b"], [], [], [])], [])])]),
        ]))

    def test_ascending(self):
        cells = ["z", "q", "abc", "b", "ab", "a"]
        for row in itertools.permutations(cells, 3):
            one = Table(cells, ["back"], [(cell, "back") for cell in row])
            self.assertEqual(by_table(Part([("either", ["q", "z"], [], [])]), one)[0,][1], tuple(sorted(row)))

    def test_other_steps_stay(self):
        steps = [SAY_X, ("fault", "w"), ("last", [("hole",)], [BACK]), ("times", 2, [("add", "c", 1)]), ("set", "c", 2)]
        self.assertEqual(by_table(Part(steps), Table([], [])), Part(steps))
        self.assertEqual(by_table(Part(steps), table(ALL)), Part(steps))
        self.assertEqual(by_table(Part([]), table(ALL)), Part([]))

    def test_more_cells_and_ways_than_the_part_has(self):
        one = Table(["c", "q", "r"], ["back", "w", "x"], [("q", "back"), ("r", "w"), ("c", "x")])
        self.assertEqual(by_table(Part([("either", ["c"], [], [])]), one), Part([("either", ["q"], [], [])]))
        self.assertEqual(by_table(Part([("catch", "w", ["c"], [], [])]), one), Part([("catch", "w", ["r"], [], [])]))

    def test_the_least_way_that_the_table_does_not_have(self):
        for ways, missing in (([], "back"), (["back"], "v"), (["back", "w"], "v"), (["back", "v"], "w"), (["v", "w"], "back"),
                              (["v"], "back"), (["x", "y"], "back")):
            for tell in (by_table, matters):
                with self.assertRaises(NoWay) as held:
                    tell(Part(MIXED), Table(["c"], ways))
                self.assertEqual(held.exception.way, missing)
        for step in (("either", [], [], []), ("whether", [], [], [], []), ("each", [], [], [])):
            with self.assertRaises(NoWay) as held:
                by_table(Part([step, ("catch", "abc", [], [], [])]), Table([], ["v"]))
            self.assertEqual(held.exception.way, "abc")
            with self.assertRaises(NoWay) as held:
                by_table(Part([("catch", "w", [], [], []), step]), Table([], ["v"]))
            self.assertEqual(held.exception.way, "back")

    def test_a_fault_is_no_way_of_the_part(self):
        self.assertEqual(by_table(Part([("fault", "w")]), Table(["c"], [])), Part([("fault", "w")]))

    def test_arguments_stay(self):
        part, one = Part(MIXED), Table(["c"], ["back", "v", "w"], [("c", "v")])
        before = part.steps(), told(one)
        found = by_table(part, one)
        one["c", "back"] = True
        self.assertEqual(by_table(part, Table(["c"], ["back", "v", "w"], [("c", "v")])), found)
        self.assertEqual((part.steps(), one.squares()), (before[0], [("c", "back"), ("c", "v")]))


class TestTableOf(unittest.TestCase):

    def check(self, steps, cells, ways, squares):
        found = table_of(Part(steps))
        self.assertIs(type(found), Table)
        self.assertEqual(told(found), (cells, ways, squares))
        self.assertEqual(table_of(part=Part(steps)), found)

    def test_each_kind_of_step(self):
        self.check([("either", ["c", "b"], [], [])], ["b", "c"], ["back"], [("b", "back"), ("c", "back")])
        self.check([("whether", ["c"], [], [], [])], ["c"], ["back"], [("c", "back")])
        self.check([("each", ["c"], [], [])], ["c"], ["back"], [("c", "back")])
        self.check([("catch", "w", ["c"], [], [])], ["c"], ["w"], [("c", "w")])
        self.check([], [], [], [])
        self.check([("set", "c", 1), ("fault", "w"), ("copy", "a", "b", 0)], ["a", "b", "c"], [], [])
        self.check([("either", [], [], []), ("add", "c", 1)], ["c"], ["back"], [])

    def test_several_steps_of_one_way(self):
        self.check([("either", ["c", "b"], [], []), ("each", ["b", "c"], [("whether", ["c", "b"], [], [], [])], []),
                    ("catch", "w", ["c"], [("catch", "w", ["c"], [], [])], [])], ["b", "c"], ["back", "w"],
                   [("b", "back"), ("c", "back"), ("c", "w")])

    def test_the_least_uneven_way(self):
        one, other = ("catch", "w", ["c"], [], []), ("catch", "w", [], [], [])
        for steps, way in (
            ([one, other], "w"), ([other, one], "w"), ([("either", ["c"], [], []), ("each", [], [], []), one, other], "back"),
            ([one, other, ("either", ["c"], [], []), ("whether", ["d"], [], [], [])], "back"),
            ([("catch", "v", [], [one], [("catch", "v", ["c"], [other], [])])], "v"),
            ([("catch", "v", ["b", "c"], [one], [("catch", "v", ["c", "b"], [other], [])])], "w"),
            ([("catch", "w", ["c"], [], [("either", [], [], [("catch", "w", ["c", "d"], [], [])])])], "w"),
            ([one, one, other], "w"), ([one, other, one], "w"), ([("either", ["c"], [("either", ["c", "d"], [], [])], [])], "back"),
        ):
            with self.assertRaises(Uneven) as held:
                table_of(Part(steps))
            self.assertEqual(held.exception.way, way)

    def test_there_and_back(self):
        steps = [("either", ["b", "c"], [], []), ("catch", "w", ["c"], [("each", ["b", "c"], [], [])], [])]
        self.assertEqual(by_table(Part(steps), table_of(Part(steps))), Part(steps))
        with self.assertRaises(Uneven):
            table_of(Part(NESTED))

    def test_the_part_stays(self):
        part = Part([("either", ["c"], [], [])])
        one = table_of(part)
        one["c", "back"] = False
        self.assertEqual(part, Part([("either", ["c"], [], [])]))
        self.assertEqual(table_of(part).squares(), [("c", "back")])


class TestMatters(unittest.TestCase):

    def check(self, steps, one, expected):
        part, before = Part(steps), told(one)
        found = matters(part, one)
        self.assertEqual(found, expected)
        self.assertIs(type(found), list)
        self.assertTrue(all(type(square) is tuple for square in found))
        self.assertEqual((part, told(one)), (Part(steps), before))
        self.assertEqual(matters(table=one, part=part), found)
        # All squares, turned round one by one.
        for cell, way in itertools.product(one.cells(), one.ways()):
            other = one.twin()
            other[cell, way] = not one[cell, way]
            self.assertIs((cell, way) in found, not alike(by_table(part, one), by_table(part, other)))

    def test_needed_and_not(self):
        steps = [("catch", "w", [], [("add", "c", 1), ("set", "d", 1), ("fault", "w")], [("set", "d", 0)])]
        for squares in ([], [("c", "w")], [("c", "w"), ("d", "w")]):
            self.check(steps, Table(["c", "d"], ["w"], squares), [("c", "w")])
            self.check(steps, Table(["c", "d"], ["v", "w", "back"], squares), [("c", "w")])

    def test_cells_that_the_part_does_not_name(self):
        # Between two answers the use sets the cell, and going back puts it back.
        self.check([("either", [], [], [])], Table(["q"], ["back"]), [("q", "back")])
        self.check([("either", ["c"], [BACK], [])], Table(["q"], ["back"]), [])
        self.check([("catch", "w", [], [], [])], Table(["q"], ["w"]), [])
        self.check([], Table(["q", "r"], ["back", "w"]), [])

    def test_ways_that_the_part_does_not_have(self):
        self.check([("either", [], [], [])], Table(["c"], ["back", "w"], [("c", "w")]), [("c", "back")])

    def test_several_steps_at_once(self):
        steps = [("catch", "w", [], [("add", "c", 1), ("fault", "w")], []), ("catch", "w", [], [("add", "d", 1), ("fault", "w")], []),
                 ("either", [], [("add", "e", 1), BACK], [("set", "d", 0)])]
        cells, ways = ["c", "d", "e", "f"], ["back", "w"]
        for squares in ([], [("e", "back"), ("c", "w")], [(cell, way) for cell in cells for way in ways]):
            self.check(steps, Table(cells, ways, squares), [("c", "w"), ("e", "back")])

    def test_squares_that_hang_together(self):
        # [20]: both put back, or both not, is the same; just one is not.
        steps = [("either", ["c", "d"], [("add", "c", 5), ("add", "d", 5), BACK], []),
                 ("below", "c", "d", 0, [SAY_X], [SAY_Y]), ("set", "c", 0), ("set", "d", 0)]
        both = [("c", "back"), ("d", "back")]
        for squares in ([], both[:1], both[1:], both):
            self.check(steps, Table(["d", "c"], ["back"], squares), both)

    def test_eight_squares(self):
        steps = [("catch", word, [], [("add", cell, 1), ("fault", word)], []) for word, cell in
                 (("u", "a"), ("v", "b"), ("w", "c"), ("x", "d"))]
        self.check(steps, Table(["a", "b"], ["u", "v", "w", "x"]), [("a", "u"), ("b", "v")])
        self.check(steps[:2], Table(["a", "b", "c", "d"], ["u", "v"], [("a", "u")]), [("a", "u"), ("b", "v")])


if __name__ == "__main__":
    unittest.main()

"""[23]: piles of layers, their tables, and the crossings of tables that have no pile."""

import itertools
import random
import unittest

from heldback.errors import BadPile
from heldback.piles import crossing, of_pile, piled
from heldback.tables import Table
from samples import ANYTHING, BAD_NAMES, BIG, GOOD_NAMES, listed


def cell(name):
    return ("cell", name)


def way(name):
    return ("way", name)


def told(table):
    return table.cells(), table.ways(), table.squares()


def tables_of(cells, ways):
    """All tables with these cells and ways."""
    squares = list(itertools.product(cells, ways))
    for many in range(len(squares) + 1):
        for back in itertools.combinations(squares, many):
            yield Table(cells, ways, back)


def least_pile(table):
    """The least order of the layers whose table this is, by trying all of them."""
    layers = [cell(name) for name in table.cells()] + [way(name) for name in table.ways()]
    fitting = []
    for row in itertools.permutations(layers):
        behind = [(name, other) for at, (kind, name) in enumerate(row) for kind_ahead, other in row[:at]
                  if kind == "cell" and kind_ahead == "way"]
        if sorted(behind) == table.squares():
            fitting.append(list(row))
    return min(fitting, default=None)


def least_crossing(table):
    """The least crossing, by trying all tuples."""
    found = [row for row in itertools.product(table.cells(), table.cells(), table.ways(), table.ways())
             if table[row[0], row[2]] and not table[row[1], row[2]] and table[row[1], row[3]] and not table[row[0], row[3]]]
    return min(found, default=None)


class TestOfPile(unittest.TestCase):

    def check(self, layers, expected):
        for given in (layers, listed(layers), tuple(layers)):
            found = of_pile(given)
            self.assertIs(type(found), Table)
            self.assertEqual(told(found), expected)
        self.assertEqual(told(of_pile(layers=layers)), expected)

    def test_no_layers(self):
        self.check([], ([], [], []))

    def test_one_kind(self):
        self.check([cell("d"), cell("c")], (["c", "d"], [], []))
        self.check([way("w"), way("back")], ([], ["back", "w"], []))

    def test_both_kinds_in_all_orders(self):
        self.check([cell("c"), way("w")], (["c"], ["w"], []))
        self.check([way("w"), cell("c")], (["c"], ["w"], [("c", "w")]))
        self.check([cell("a"), way("w"), cell("c"), way("back"), cell("b")],
                   (["a", "b", "c"], ["back", "w"], [("b", "back"), ("b", "w"), ("c", "w")]))
        layers = [cell("b"), cell("c"), way("back"), way("w"), way("c")]
        for row in itertools.permutations(layers):
            squares = sorted((name, other) for at, (kind, name) in enumerate(row) for before, other in row[:at]
                             if (before, kind) == ("way", "cell"))
            self.check(row, (["b", "c"], ["back", "c", "w"], squares))

    def test_a_name_that_is_a_cell_and_a_way(self):
        self.check([way("c"), cell("c"), way("back"), cell("back")],
                   (["back", "c"], ["back", "c"], [("back", "back"), ("back", "c"), ("c", "c")]))
        self.check([cell("way"), way("cell")], (["way"], ["cell"], []))

    def test_any_name(self):
        for name in GOOD_NAMES:
            self.check([way(name), cell(name)], ([name], [name], [(name, name)]))

    def assert_bad(self, layers, index):
        for given in (layers, listed(layers), tuple(layers)):
            with self.assertRaises(BadPile) as held:
                of_pile(given)
            self.assertEqual(held.exception.index, index)

    def test_what_is_no_layer(self):
        for thing in [*ANYTHING, 0, 1, BIG, {}, {"cell": "c"}, "cell", "way", "cell c", ["cell"], ("way",), ("cell", "c", "d"),
                      ("cells", "c"), ("Cell", "c"), ("c", "cell"), ("", "c"), (None, "c"), (0, "c"), (True, "c"), ({}, "c"),
                      (["cell"], "c"), (("cell",), "c"), ("back", "w"), ("word", "w"), [cell("d")], (cell("d"), cell("e")),
                      *[("cell", name) for name in BAD_NAMES], *[("way", name) for name in BAD_NAMES]]:
            with self.subTest(thing=thing):
                self.assert_bad([thing], 0)
                self.assert_bad([cell("c"), thing, way("w"), None], 1)
                self.assert_bad([cell("c"), way("w"), cell("d"), way("v"), thing, cell("c")], 4)

    def test_what_stood_before(self):
        self.assert_bad([cell("c"), cell("c")], 1)
        self.assert_bad([way("w"), cell("w"), way("w"), None], 2)
        self.assert_bad([way("w"), cell("c"), ["cell", "c"]], 2)
        self.assert_bad([["way", "w"], cell("c"), way("v"), way("w"), way("v")], 3)
        self.assert_bad([cell("c"), None, cell("c")], 1)

    def test_arguments_stay(self):
        layers = [["way", "w"], ["cell", "c"]]
        table = of_pile(layers)
        self.assertEqual(layers, [["way", "w"], ["cell", "c"]])
        layers[1][1] = "d"
        layers.reverse()
        self.assertEqual(told(table), (["c"], ["w"], [("c", "w")]))


class TestPiled(unittest.TestCase):

    def check(self, table, expected):
        before = told(table)
        found = piled(table)
        self.assertEqual(found, expected)
        self.assertEqual(told(table), before)
        self.assertEqual(piled(table=table), found)
        if found is not None:
            self.assertIs(type(found), list)
            self.assertTrue(all(type(layer) is tuple for layer in found))
            self.assertEqual(of_pile(found), table)

    def test_no_cells_or_no_ways(self):
        self.check(Table([], []), [])
        self.check(Table(["d", "c"], []), [cell("c"), cell("d")])
        self.check(Table([], ["w", "back"]), [way("back"), way("w")])

    def test_the_least_one(self):
        self.check(Table(["c", "d"], ["w"]), [cell("c"), cell("d"), way("w")])
        self.check(Table(["c", "d"], ["w"], [("c", "w")]), [cell("d"), way("w"), cell("c")])
        self.check(Table(["c", "d"], ["v", "w"], [("c", "w"), ("d", "w"), ("c", "v"), ("d", "v")]),
                   [way("v"), way("w"), cell("c"), cell("d")])
        self.check(Table(["a", "b"], ["v", "w"], [("b", "w"), ("b", "v"), ("a", "w")]),
                   [way("w"), cell("a"), way("v"), cell("b")])

    def test_no_pile(self):
        self.check(Table(["c", "d"], ["v", "w"], [("c", "w"), ("d", "v")]), None)
        self.check(Table(["c", "d"], ["v", "w"], [("c", "v"), ("d", "w")]), None)

    def test_against_all_orders(self):
        kinds = {True: 0, False: 0}
        for cells, ways in (("c", "w"), ("cd", "w"), ("c", "vw"), ("cd", "vw"), ("cde", "w"), ("cde", "vw"), ("cd", "uvw"),
                            ("", "vw"), ("cd", ""), ("wc", "cw")):
            for table in tables_of(list(cells), list(ways)):
                expected = least_pile(table)
                self.check(table, expected)
                kinds[expected is None] += 1
        self.assertGreater(min(kinds.values()), 30)

    def test_there_and_back(self):
        chance = random.Random(5)
        for _ in range(300):
            layers = [cell(name) for name in "abcdef"] + [way(name) for name in ("back", "b", "c", "w")]
            chance.shuffle(layers)
            table = of_pile(layers)
            found = piled(table)
            self.assertEqual(of_pile(found), table)
            self.assertLessEqual(found, layers)
            self.assertIsNone(crossing(table))

    def test_a_returned_list_is_a_new_one(self):
        table = Table(["c"], ["w"])
        piled(table).clear()
        self.assertEqual(piled(table), [cell("c"), way("w")])


class TestCrossing(unittest.TestCase):

    def check(self, table, expected):
        before = told(table)
        found = crossing(table)
        self.assertEqual(found, expected)
        self.assertIn(type(found), (tuple, type(None)))
        self.assertEqual(told(table), before)
        self.assertEqual(crossing(table=table), found)

    def test_none(self):
        for table in (Table([], []), Table(["c", "d"], []), Table([], ["v", "w"]), Table(["c", "d"], ["v", "w"]),
                      Table(["c", "d"], ["v", "w"], [("c", "w")]), Table(["c"], ["v", "w"], [("c", "w")])):
            self.check(table, None)

    def test_the_least_one(self):
        self.check(Table(["c", "d"], ["v", "w"], [("c", "w"), ("d", "v")]), ("c", "d", "w", "v"))
        self.check(Table(["c", "d"], ["v", "w"], [("d", "w"), ("c", "v")]), ("c", "d", "v", "w"))
        self.check(Table(["a", "c", "d"], ["back", "v", "w"], [("c", "w"), ("c", "back"), ("d", "v")]), ("c", "d", "back", "v"))
        self.check(Table(["a", "b"], ["u", "v", "w", "x"], [("a", "w"), ("a", "v"), ("b", "x"), ("b", "u")]), ("a", "b", "v", "u"))

    def test_against_all_tuples_and_piles(self):
        for cells, ways in (("cd", "vw"), ("cde", "vw"), ("cd", "uvw"), ("cde", "uvw"), ("wc", "cw"), ("c", "vw"), ("", "w")):
            for table in tables_of(list(cells), list(ways)):
                self.check(table, least_crossing(table))
                # Each table has either a pile or a crossing.
                self.assertNotEqual(piled(table) is None, crossing(table) is None)

    def test_larger_tables(self):
        chance = random.Random(7)
        found = 0
        for _ in range(300):
            cells, ways = list("abcdef"), ["back", "b", "u", "v", "w"]
            table = Table(cells, ways, [square for square in itertools.product(cells, ways) if chance.random() < 0.9])
            self.check(table, least_crossing(table))
            self.assertNotEqual(piled(table) is None, crossing(table) is None)
            found += crossing(table) is not None
        self.assertTrue(50 < found < 300)


if __name__ == "__main__":
    unittest.main()

"""[3]: each function and method of the package, called with its arguments by the names in the interface, in any order."""

import itertools
import unittest

from heldback import errors
from heldback.codes import code
from heldback.frames import filled, framing
from heldback.likeness import alike, parting
from heldback.machines import Machine
from heldback.parts import Part
from heldback.piles import crossing, of_pile, piled
from heldback.rules import fitting, rewritten, short
from heldback.runs import Run
from heldback.saves import keeping, least_saves, needless, saves
from heldback.tables import Table, by_table, matters, table_of
from heldback.texts import read, text
from heldback.trees import followed, tree
from heldback.uses import outcomes
from heldback.wishes import dead, fulfilled, most_answers

STEPS = [("either", ["c"], [("add", "c", 1), ("back",)], [("hole",), ("say", "x")]), ("less", "c", 3, [], [("say", "y")])]
PART = Part(STEPS)
OTHER = Part([("less", "c", 4, [], [("say", "y")])])
TABLE = Table(["c", "d"], ["back", "w"], [("c", "back")])
# Each function, and the arguments of a call by their names.
FUNCTIONS = [
    (outcomes, {"part": PART, "use": [{"c": 2}, {}]}),
    (tree, {"part": PART}),
    (followed, {"nodes": tree(PART), "use": [{"c": 2}, {}]}),
    (alike, {"one": PART, "other": OTHER}),
    (parting, {"one": PART, "other": OTHER}),
    (filled, {"frame": PART, "part": OTHER}),
    (framing, {"one": PART, "other": OTHER}),
    (fulfilled, {"part": PART, "wish": ("says", "y")}),
    (dead, {"part": PART}),
    (most_answers, {"part": PART}),
    (saves, {"part": PART}),
    (keeping, {"part": PART, "kept": [((0,), "c")]}),
    (needless, {"part": PART}),
    (least_saves, {"part": PART}),
    (by_table, {"part": PART, "table": TABLE}),
    (table_of, {"part": PART}),
    (matters, {"part": PART, "table": TABLE}),
    (of_pile, {"layers": [("way", "w"), ("cell", "c")]}),
    (piled, {"table": TABLE}),
    (crossing, {"table": TABLE}),
    (code, {"part": PART}),
    (rewritten, {"part": PART, "rule": "spread", "path": (0,)}),
    (fitting, {"part": PART}),
    (short, {"part": PART}),
    (text, {"part": PART}),
    (read, {"written": "either c\n  back\nor\n  say x"}),
]
# Each class, the arguments of a call by their names, and what tells of an object.
CLASSES = [
    (Part, {"steps": STEPS}, lambda part: part.steps()),
    (Run, {"part": PART, "cells": {"c": 4}}, lambda run: (run.answer(), run.cells(), run.said())),
    (Table, {"cells": ["c", "d"], "ways": ["w"], "squares": [("c", "w")]},
     lambda table: (table.cells(), table.ways(), table.squares())),
    (Machine, {"part": PART, "cells": {"c": 4}}, lambda machine: (machine.answer(), machine.cells(), machine.said())),
]
# Methods of an object: how it is made, its method, the arguments by their names.
METHODS = [
    (lambda: PART, "steps", {}), (lambda: PART, "cells", {}), (lambda: PART, "words", {}), (lambda: PART, "faults", {}),
    (lambda: PART, "replaced", {"path": (0, 1, 0), "steps": [("say", "z")]}), (lambda: PART, "__call__", {"cells": {"c": 7}}),
    (lambda: Run(PART), "answer", {}), (lambda: Run(PART), "said", {}), (lambda: Run(PART, {"c": 1}), "cells", {}),
    (lambda: Run(PART), "trial", {"work": lambda run: run.answer()}),
    (lambda: Machine(PART), "answer", {}), (lambda: Machine(PART), "said", {}), (lambda: Machine(PART, {"c": 1}), "cells", {}),
    (lambda: Machine(PART), "trail", {}), (lambda: TABLE.twin(), "cells", {}), (lambda: TABLE.twin(), "ways", {}), (lambda: TABLE.twin(), "squares", {}),
    (lambda: TABLE.twin(), "twin", {}), (lambda: TABLE.twin(), "within", {"other": TABLE}),
]
ERRORS = {
    "BadPart": {"path": (0, 1, 2)}, "NoPath": {"path": (0,)}, "NotName": {"key": 1}, "NotNumber": {"value": "a"},
    "NotTruth": {"value": 1}, "BadUse": {"index": 0}, "Over": {}, "Uncaught": {"word": "w"}, "NoAnswer": {}, "BadWish": {},
    "NoSave": {"save": ((0,), "c")}, "NoSquare": {"square": ("c", "w")}, "UnlikeTables": {}, "NoWay": {"way": "w"},
    "Uneven": {"way": "w"}, "BadPile": {"index": 2}, "NoRule": {"rule": "new"}, "NoFit": {"rule": "cut", "path": (0,)},
    "BadText": {"line": 3},
}


def orders(arguments):
    """The same arguments in all orders."""
    return [dict(row) for row in itertools.permutations(arguments.items())]


class TestCalls(unittest.TestCase):

    def test_functions(self):
        for function, arguments in FUNCTIONS:
            with self.subTest(function.__name__):
                expected = function(*arguments.values())
                for given in orders(arguments):
                    self.assertEqual(function(**given), expected)

    def test_classes(self):
        for made, arguments, tell in CLASSES:
            with self.subTest(made.__name__):
                expected = tell(made(*arguments.values()))
                for given in orders(arguments):
                    self.assertEqual(tell(made(**given)), expected)

    def test_a_machine_with_a_trail(self):
        for given in orders({"part": PART, "cells": {"c": 4}, "trail": True}):
            machine = Machine(**given)
            machine["c"] = 5
            self.assertEqual(machine.trail(), [("c", 4)])

    def test_methods(self):
        for make, method, arguments in METHODS:
            with self.subTest(method):
                expected = getattr(make(), method)(*arguments.values())
                for given in orders(arguments):
                    self.assertEqual(getattr(make(), method)(**given), expected)

    def test_errors(self):
        for name, arguments in ERRORS.items():
            for given in [*orders(arguments), None]:
                made = getattr(errors, name)
                error = made(*arguments.values()) if given is None else made(**given)
                self.assertEqual({key: getattr(error, key) for key in arguments}, arguments)


if __name__ == "__main__":
    unittest.main()

"""The interface at the end of the document: the names, where they are defined, and their arguments."""

import ast
import importlib
import inspect
import pathlib
import unittest

PACKAGE = pathlib.Path(__file__).resolve().parent.parent / "heldback"

# For each file its classes, for each class its methods, for each of these the parameters (None: those of Python).
CLASSES = {
    "parts": {
        "Part": {
            "__init__": ["steps"], "steps": [], "cells": [], "words": [], "faults": [], "replaced": ["path", "steps"],
            "__getitem__": None, "__len__": [], "__eq__": None, "__add__": None, "__mul__": None, "__rmul__": None,
            "__or__": None, "__call__": ["cells=None"],
        },
    },
    "runs": {
        "Run": {
            "__init__": ["part", "cells=None"], "answer": [], "said": [], "cells": [], "twin": [], "trial": ["work"],
            "ended": [], "__getitem__": None, "__setitem__": None,
        },
    },
    "tables": {
        "Table": {
            "__init__": ["cells", "ways", "squares=()"], "cells": [], "ways": [], "squares": [], "twin": [],
            "within": ["other"], "__getitem__": None, "__setitem__": None, "__contains__": None, "__len__": [],
            "__eq__": None, "__or__": None, "__and__": None, "__sub__": None, "__xor__": None, "__ior__": None,
            "__iand__": None, "__isub__": None, "__ixor__": None,
        },
    },
    "machines": {
        "Machine": {
            "__init__": ["part", "cells=None", "trail=False"], "answer": [], "said": [], "cells": [], "trail": [],
            "ended": [], "__getitem__": None, "__setitem__": None,
        },
    },
}
# For each file its functions with their parameters.
FUNCTIONS = {
    "uses": {"outcomes": ["part", "use"]},
    "trees": {"tree": ["part"], "followed": ["nodes", "use"]},
    "likeness": {"alike": ["one", "other"], "parting": ["one", "other"]},
    "frames": {"filled": ["frame", "part"], "framing": ["one", "other"]},
    "wishes": {"fulfilled": ["part", "wish"], "dead": ["part"], "most_answers": ["part"]},
    "saves": {"saves": ["part"], "keeping": ["part", "kept"], "needless": ["part"], "least_saves": ["part"]},
    "tables": {"by_table": ["part", "table"], "table_of": ["part"], "matters": ["part", "table"]},
    "piles": {"of_pile": ["layers"], "piled": ["table"], "crossing": ["table"]},
    "codes": {"code": ["part"]},
    "rules": {"rewritten": ["part", "rule", "path"], "fitting": ["part"], "short": ["part"]},
    "texts": {"text": ["part"], "read": ["written"]},
}
ERRORS = {
    "HeldError": None, "BadPart": ["path"], "NoPath": ["path"], "NotName": ["key"], "NotNumber": ["value"],
    "NotTruth": ["value"], "BadUse": ["index"], "Over": [], "Uncaught": ["word"], "NoAnswer": [], "BadWish": [],
    "NoSave": ["save"], "NoSquare": ["square"], "UnlikeTables": [], "NoWay": ["way"], "Uneven": ["way"],
    "BadPile": ["index"], "NoRule": ["rule"], "NoFit": ["rule", "path"], "BadText": ["line"],
}


def tree_of(name):
    return ast.parse((PACKAGE / (name + ".py")).read_text(encoding="utf-8"))


def defined(body, kind):
    return {node.name: node for node in body if isinstance(node, kind)}


def parameters(function):
    """The parameters of a method but the first one, defaults written behind them."""
    return all_parameters(function)[1:]


def all_parameters(function):
    told = []
    for parameter in inspect.signature(function).parameters.values():
        default = "" if parameter.default is parameter.empty else f"={parameter.default!r}"
        told.append(parameter.name + default)
    return told


class TestInterface(unittest.TestCase):

    def test_classes_and_methods(self):
        for name, classes in CLASSES.items():
            module = importlib.import_module("heldback." + name)
            written = defined(tree_of(name).body, ast.ClassDef)
            for title, methods in classes.items():
                rows = defined(written[title].body, ast.FunctionDef)
                for method, expected in methods.items():
                    with self.subTest(title, method=method):
                        self.assertIn(method, rows)
                        self.assertIn(method, vars(getattr(module, title)))
                        found = vars(getattr(module, title))[method]
                        if isinstance(found, property):
                            found = found.fget
                        if expected is not None:
                            self.assertEqual(parameters(found), expected)

    def test_functions(self):
        for name, functions in FUNCTIONS.items():
            module = importlib.import_module("heldback." + name)
            written = defined(tree_of(name).body, ast.FunctionDef)
            for title, expected in functions.items():
                with self.subTest(title):
                    self.assertIn(title, written)
                    self.assertEqual(all_parameters(getattr(module, title)), expected)

    def test_ended_is_a_property(self):
        for title, name in (("Run", "runs"), ("Machine", "machines")):
            found = vars(getattr(importlib.import_module("heldback." + name), title))["ended"]
            self.assertIsInstance(found, property)
            self.assertIsNone(found.fset)

    def test_the_trail_is_passed_by_name_only(self):
        made = importlib.import_module("heldback.machines").Machine
        self.assertEqual(inspect.signature(made).parameters["trail"].kind, inspect.Parameter.KEYWORD_ONLY)

    def test_errors(self):
        module = importlib.import_module("heldback.errors")
        written = defined(tree_of("errors").body, ast.ClassDef)
        self.assertEqual(set(written), set(ERRORS))
        for title, expected in ERRORS.items():
            if expected is not None:
                self.assertEqual(parameters(vars(getattr(module, title))["__init__"]), expected)


if __name__ == "__main__":
    unittest.main()

"""The form of the operators: they change nothing and call nothing that they are handed, through what they call neither.

A look at the files for what L5 Operators and L28 of the language ask. It follows the calls of each operator, property,
`__eq__`, `__len__` and the like into the functions, the methods and the `__init__` of the package, whatever way they go.
"""

import ast
import builtins
import unittest

from test_form import ALLOWED_METHODS, TREES

# These may change the object.
CHANGING = {"__init__", "__call__", "__enter__", "__exit__", "__setitem__"}
IN_PLACE = {f"__i{sign}__" for sign in "add sub mul floordiv mod pow and or xor lshift rshift".split()}
# What changes a list, a dict or a set.
MODIFYING = set("append clear extend insert pop remove reverse setdefault update sort add discard".split())
# What of this changes a list or a dict that a function created itself, and may stand there.
OF_ITS_OWN = MODIFYING - {"sort", "add", "discard"}
FRESH = ("list", "dict", "sorted")


def defined(trees, name, word):
    """The pair (file, node) of the function or the class that has this name in a file, or None."""
    for row in trees[name].body:
        if isinstance(row, (ast.FunctionDef, ast.ClassDef)) and row.name == word:
            return name, row
        if isinstance(row, ast.ImportFrom) and word in [alias.name for alias in row.names]:
            return defined(trees, row.module.split(".")[1], word)
    return None


def methods(trees, word):
    """The triples (file, class, method) of all methods of this name."""
    return [(name, owner, row) for name, tree in trees.items() for owner in tree.body if isinstance(owner, ast.ClassDef)
            for row in owner.body if isinstance(row, ast.FunctionDef) and row.name == word]


def makings(trees, name, owner):
    """The triple of the `__init__` of a class, or of the nearest class above it that has one, in a list."""
    for row in owner.body:
        if isinstance(row, ast.FunctionDef) and row.name == "__init__":
            return [(name, owner, row)]
    return makings_above(trees, name, owner)


def makings_above(trees, name, owner):
    above = [defined(trees, name, base.id) for base in owner.bases]
    return [triple for pair in above if pair is not None for triple in makings(trees, *pair)]


def roots(trees):
    """The triples (file, class, method) of all methods that change nothing."""
    found = []
    for name, tree in trees.items():
        for owner in tree.body:
            for row in owner.body if isinstance(owner, ast.ClassDef) else []:
                if isinstance(row, ast.FunctionDef):
                    is_property = [ast.unparse(decorator) for decorator in row.decorator_list] == ["property"]
                    if is_property or (row.name.startswith("__") and row.name not in CHANGING | IN_PLACE):
                        found.append((name, owner, row))
    return found


def called_from(trees, name, owner, function):
    """The triples (file, class or None, function) of what a function may call."""
    found = []
    for node in ast.walk(function):
        if isinstance(node, ast.Name) and isinstance(node.ctx, ast.Load):
            # A function that is handed on counts as called, too.
            pair = defined(trees, name, node.id)
            if pair is not None and isinstance(pair[1], ast.FunctionDef):
                found.append((pair[0], None, pair[1]))
        if isinstance(node, ast.Call) and isinstance(node.func, ast.Name):
            pair = defined(trees, name, node.func.id)
            if pair is not None and isinstance(pair[1], ast.ClassDef):
                found.extend(makings(trees, *pair))
        if isinstance(node, ast.Call) and isinstance(node.func, ast.Attribute):
            if node.func.attr == "__init__":
                found.extend(makings_above(trees, name, owner))
            else:
                found.extend(methods(trees, node.func.attr))
    return found


def parameters(function):
    told = function.args
    rows = told.posonlyargs + told.args + told.kwonlyargs + [told.vararg, told.kwarg]
    return [row.arg for row in rows if row is not None]


def is_fresh(value):
    """Tells whether a value is a list or a dict that was created just here."""
    if isinstance(value, ast.Call) and isinstance(value.func, ast.Name):
        return value.func.id in FRESH
    return isinstance(value, (ast.List, ast.Dict, ast.ListComp))


def created(function):
    """The names of the local variables that hold nothing but lists and dicts that the function created itself."""
    stored = [node for node in ast.walk(function) if isinstance(node, ast.Name) and isinstance(node.ctx, ast.Store)]
    fresh = [target for node in ast.walk(function) if isinstance(node, ast.Assign) and is_fresh(node.value)
             for target in node.targets if isinstance(target, ast.Name)]
    other = {node.id for node in stored if node not in fresh} | set(parameters(function))
    return {target.id for target in fresh} - other


def is_made_by(node, function):
    """Tells whether a target is an attribute that an `__init__` gives its own object."""
    return function.name == "__init__" and isinstance(node.value, ast.Name) and node.value.id == parameters(function)[0]


def changes_in(function):
    """The pairs (row, what) of all that a function changes and did not create itself."""
    own = created(function)
    found = []
    for node in ast.walk(function):
        if isinstance(node, (ast.Attribute, ast.Subscript)) and not isinstance(node.ctx, ast.Load):
            if isinstance(node, ast.Attribute):
                allowed = is_made_by(node, function)
            else:
                allowed = isinstance(node.value, ast.Name) and node.value.id in own
            if not allowed:
                found.append((node.lineno, "changes " + ast.unparse(node)))
        if isinstance(node, ast.AugAssign):
            literal = isinstance(node.value, ast.Constant) and isinstance(node.value.value, int)
            if not (isinstance(node.op, ast.Add) and literal and isinstance(node.target, ast.Name)):
                found.append((node.lineno, "changes " + ast.unparse(node.target)))
        if isinstance(node, ast.Call) and isinstance(node.func, ast.Attribute) and node.func.attr in MODIFYING:
            told = node.func.value
            if not (isinstance(told, ast.Name) and told.id in own and node.func.attr in OF_ITS_OWN):
                found.append((node.lineno, "changes " + ast.unparse(told)))
    return found


def strange_calls_in(trees, name, function):
    """The pairs (row, what) of all calls of what a function is handed or holds."""
    found = []
    for node in ast.walk(function):
        if isinstance(node, ast.Call):
            told = node.func
            if isinstance(told, ast.Name):
                known = defined(trees, name, told.id) is not None or hasattr(builtins, told.id)
            elif isinstance(told, ast.Attribute):
                known = told.attr in ALLOWED_METHODS | {"__init__"} or methods(trees, told.attr)
            else:
                known = False
            if not known:
                found.append((node.lineno, "calls " + ast.unparse(told)))
    return found


def faults(trees):
    """The list of the places that an operator or the like comes to and that it must not come to.

    A place is (operator, file, row, what), with the name of the class and the method for the operator.
    """
    found = []
    for root in roots(trees):
        ahead, seen = [root], []
        while ahead:
            name, owner, function = ahead.pop()
            if function not in seen:
                seen.append(function)
                ahead.extend(called_from(trees, name, owner, function))
                for row, what in changes_in(function) + strange_calls_in(trees, name, function):
                    found.append((f"{root[1].name}.{root[2].name}", name, row, what))
    return found


# A class with an operator. In each of the samples below one row of it, or two, is another one.
ROWS = """
class Base:
    def __init__(self, rows):
        self.rows = rows

class Box(Base):
    def __init__(self, rows):
        super().__init__(list(rows))
        board = {}
        board[1] = True
        self.board = board

    def told(self):
        return list(self.rows)

    def put(self, row):
        self.rows.append(row)

    def __len__(self):
        return len(self.rows)

    def __setitem__(self, at, worth):
        self.rows[at] = worth

    def __ior__(self, other):
        self.rows = self.rows + other.rows
        return self

    def __or__(self, other):
        return joined(self, other)

def joined(one, other):
    made = []
    made.append(len(one))
    return Box(made + one.told())
"""


def sample(*pairs):
    """The faults of the class above, with other texts in the place of some of its texts."""
    source = ROWS
    for old, new in pairs:
        assert source.count(old) == 1, old
        source = source.replace(old, new)
    return [(operator, what) for operator, _, _, what in faults({"sample": ast.parse(source)})]


class TestOperatorsChangeNothing(unittest.TestCase):

    def test_the_package(self):
        self.assertEqual(faults(TREES), [])

    def test_the_operators_are_found(self):
        found = {f"{owner.name}.{row.name}" for _, owner, row in roots(TREES)}
        for operator in ("Table.__or__", "Table.__and__", "Table.__sub__", "Table.__xor__", "Table.__eq__", "Table.__len__",
                         "Table.__contains__", "Table.__getitem__", "Part.__add__", "Part.__mul__", "Part.__rmul__",
                         "Part.__or__", "Part.__eq__", "Part.__len__", "Part.__getitem__", "Run.__getitem__", "Run.ended",
                         "Machine.__getitem__", "Machine.ended"):
            self.assertIn(operator, found)
        for operator in ("Table.__ior__", "Table.__setitem__", "Table.__init__", "Table.twin", "Part.__call__"):
            self.assertNotIn(operator, found)

    def test_the_calls_are_followed(self):
        for operator in ("__or__", "__and__", "__sub__", "__xor__"):
            (root,) = [triple for triple in methods(TREES, operator) if triple[1].name == "Table"]
            makers = called_from(TREES, *root)
            self.assertIn(("tables", None, defined(TREES, "tables", "with_squares")[1]), makers)
        maker = defined(TREES, "tables", "with_squares")[1]
        made = [(owner.name, row.name) for _, owner, row in called_from(TREES, "tables", None, maker)]
        self.assertEqual(made, [("Table", "__init__")])


class TestTheLook(unittest.TestCase):
    """The look finds what it is to find, and nothing else."""

    def test_nothing_to_find(self):
        self.assertEqual(sample(), [])
        self.assertEqual(sample(("board = {}", "board = dict(rows)")), [])
        self.assertEqual(sample(("made = []", "made = [row for row in one.rows]")), [])
        self.assertEqual(sample(("made = []", "made = sorted(one.rows)\n    made[0] = 2\n    del made[1]")), [])
        self.assertEqual(sample(("made = []", "made = []\n    at = 0\n    at += 1")), [])

    def test_an_item_of_an_attribute(self):
        self.assertEqual(sample(("board[1] = True\n", "self.board = {}\n        self.board[1] = True\n")),
                         [("Box.__or__", "changes self.board[1]")])
        self.assertEqual(sample(("board[1] = True\n        self.board = board", "self.board = board\n        self.board[1] = 2")),
                         [("Box.__or__", "changes self.board[1]")])
        self.assertEqual(sample(("self.rows = rows", "self.rows = rows\n        self.rows[0], x = 1, 2")),
                         [("Box.__or__", "changes self.rows[0]")])
        self.assertEqual(sample(("return list(self.rows)", "self.rows[0] = 1\n        return []")),
                         [("Box.__or__", "changes self.rows[0]")])
        self.assertEqual(sample(("return len(self.rows)", "del self.rows[0]\n        return len(self.rows)")),
                         [("Box.__len__", "changes self.rows[0]")])
        self.assertEqual(sample(("made = []", "made = []\n    for one.rows[0] in other.rows:\n        pass")),
                         [("Box.__or__", "changes one.rows[0]")])

    def test_an_item_of_what_the_function_did_not_create(self):
        for value in ("{x: x for x in rows}", "rows", "{} | {}", "self.told()", "set(rows)"):
            self.assertEqual(sample(("board = {}", f"board = {value}")), [("Box.__or__", "changes board[1]")])
        self.assertEqual(sample(("board = {}", "board = {}\n        board = self.rows")), [("Box.__or__", "changes board[1]")])
        self.assertEqual(sample(("board[1] = True", "board[1] = []\n        board[1][0] = True")),
                         [("Box.__or__", "changes board[1][0]")])
        self.assertEqual(sample(("def joined(one, other):", "def joined(one, made):")), [("Box.__or__", "changes made")])

    def test_an_attribute(self):
        self.assertEqual(sample(("made = []", "made = []\n    one.rows = []")), [("Box.__or__", "changes one.rows")])
        self.assertEqual(sample(("self.board = board", "rows.board = board")), [("Box.__or__", "changes rows.board")])
        self.assertEqual(sample(("return list(self.rows)", "self.rows = []\n        return []")),
                         [("Box.__or__", "changes self.rows")])

    def test_a_method_that_modifies(self):
        self.assertEqual(sample(("made = []", "made = []\n    one.put(2)")), [("Box.__or__", "changes self.rows")])
        for call in ("append(2)", "extend([2])", "pop()", "clear()", "sort()", "insert(0, 1)", "reverse()"):
            self.assertEqual(sample(("made = []", f"made = []\n    other.rows.{call}")), [("Box.__or__", "changes other.rows")])
        self.assertEqual(sample(("made = []", "made = []\n    made.sort()")), [("Box.__or__", "changes made")])

    def test_in_place(self):
        self.assertEqual(sample(("made = []", "made = one.rows\n    made += [2]"), ("    made.append(len(one))\n", "")),
                         [("Box.__or__", "changes made")])
        self.assertEqual(sample(("made = []", "made = []\n    one |= other")), [("Box.__or__", "changes one")])
        self.assertEqual(sample(("made = []", "made = []\n    at = 2\n    at -= 1")), [("Box.__or__", "changes at")])

    def test_what_is_handed_over(self):
        self.assertEqual(sample(("made.append(len(one))", "made.append(other(one))")), [("Box.__or__", "calls other")])
        self.assertEqual(sample(("made.append(len(one))", "made.append(one.rows[0](2))")), [("Box.__or__", "calls one.rows[0]")])
        self.assertEqual(sample(("made.append(len(one))", "made.append(one.work(2))")), [("Box.__or__", "calls one.work")])

    def test_a_property(self):
        self.assertEqual(sample(("    def told(self):\n", "    @property\n    def told(self):\n        self.rows[0] = 1\n"),
                                ("one.told()", "one.told")), [("Box.told", "changes self.rows[0]")])


if __name__ == "__main__":
    unittest.main()

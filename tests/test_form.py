"""The form of the code: what a look at the files can tell of the rules L1 to L28 of the language."""

import ast
import builtins
import pathlib
import re
import unittest
import warnings

PACKAGE = pathlib.Path(__file__).resolve().parent.parent / "heldback"
FILES = sorted(path for path in PACKAGE.rglob("*") if "__pycache__" not in path.parts)
SOURCES = {path.stem: path.read_text(encoding="utf-8") for path in FILES if path.suffix == ".py"}
TREES = {name: ast.parse(source) for name, source in SOURCES.items()}

ALLOWED_BUILTINS = set("""
    len range enumerate zip min max sum abs sorted reversed int str bool bytes list tuple dict set frozenset isinstance
    ord repr any all divmod Exception ValueError TypeError KeyError IndexError LookupError ZeroDivisionError
    ArithmeticError OverflowError RuntimeError NotImplementedError AttributeError StopIteration NotImplemented
    iter next property staticmethod classmethod super True False None
""".split())
ALLOWED_METHODS = set("""
    append clear copy count endswith extend find get index insert isalnum isalpha isdigit islower isspace isupper items
    join keys ljust lower lstrip partition pop remove replace reverse rfind rjust rpartition rsplit rstrip setdefault
    split splitlines startswith strip update upper values zfill bit_length title capitalize swapcase casefold center
    expandtabs removeprefix removesuffix rindex isascii isdecimal isnumeric istitle isidentifier isprintable sort
    translate
""".split())
BARRED_ATTRIBUTES = set("""
    items keys values pop update append clear extend insert remove reverse setdefault sort args encode decode hex fromhex
    format format_map mro as_integer_ratio bit_count conjugate from_bytes is_integer to_bytes
""".split())
BARRED_NAMES = set("""
    register mro elements open input law version_info with_traceback add_note attrgetter breakpoint builtins compile
    copyright credits delattr dir eval exec exit gc getattr globals hasattr help id importlib license locals
    methodcaller os quit setattr type vars sys
""".split())
BARRED_WORDS = set("""
    type typing typing_extensions enum Enum IntEnum StrEnum Flag IntFlag Generic Protocol ABC ABCMeta namedtuple
    NamedTuple TypedDict TYPE_CHECKING abstractmethod
""".split())
DOUBLE_UNDERSCORES = set("""
    init eq repr str len enter exit call iter lt le gt ge ne add sub mul floordiv mod pow and or xor lshift rshift radd
    rsub rmul rfloordiv rmod rand ror rxor rlshift rrshift iadd isub imul ifloordiv imod ipow iand ior ixor ilshift
    irshift neg pos invert abs bool contains getitem setitem
""".split())
STATEMENTS = (
    ast.Assign, ast.AugAssign, ast.If, ast.While, ast.For, ast.Return, ast.Break, ast.Continue, ast.Pass, ast.Raise,
    ast.Assert, ast.Delete, ast.Nonlocal, ast.Match, ast.With, ast.Try, ast.Expr, ast.FunctionDef, ast.ClassDef,
    ast.ImportFrom,
)
FREELY_CAUGHT = ("KeyError", "ZeroDivisionError", "StopIteration")


def nodes(kind):
    """The pairs of a file's name and a node of this kind."""
    return [(name, node) for name, tree in TREES.items() for node in ast.walk(tree) if isinstance(node, kind)]


def is_docstring(node):
    return isinstance(node, ast.Expr) and isinstance(node.value, ast.Constant) and isinstance(node.value.value, str)


def all_parameters(function):
    arguments = function.args
    told = arguments.posonlyargs + arguments.args + arguments.kwonlyargs
    return [told for told in told + [arguments.vararg, arguments.kwarg] if told is not None]


def imports_of(name):
    return [node for node in TREES[name].body if isinstance(node, ast.ImportFrom)]


def bound_at_module_level(name):
    bound = []
    for node in TREES[name].body:
        if isinstance(node, (ast.FunctionDef, ast.ClassDef)):
            bound.append(node.name)
        if isinstance(node, ast.Assign):
            bound.append(node.targets[0].id)
        if isinstance(node, ast.ImportFrom):
            bound.extend(alias.asname or alias.name for alias in node.names)
    return bound


def own_classes():
    return [node for _, node in nodes(ast.ClassDef)]


def own_methods():
    """The names of the methods of the package; properties are none."""
    return {row.name for node in own_classes() for row in node.body
            if isinstance(row, ast.FunctionDef) and not row.decorator_list}


def own_properties():
    return {row.name for node in own_classes() for row in node.body
            if isinstance(row, ast.FunctionDef) and row.decorator_list}


class TestForm(unittest.TestCase):

    def test_files(self):
        self.assertIn(PACKAGE / "__init__.py", FILES)
        for path in FILES:
            self.assertTrue(path.is_file() and re.fullmatch(r"[a-z0-9_]+\.py", path.name), path)
            self.assertFalse(path.stem in vars(builtins) or path.stem in BARRED_WORDS | {"site", "testing"}, path)
            self.assertFalse(path.stem.startswith(("law_", "test")), path)
        self.assertLessEqual(len(FILES), 100)

    def test_characters_and_size(self):
        for name, source in SOURCES.items():
            lines = source.split("\n")
            self.assertLessEqual(len(lines) - 1, 399, name)
            for number, line in enumerate(lines, start=1):
                self.assertLessEqual(len(line), 120, (name, number))
                self.assertTrue(all(" " <= sign <= "~" for sign in line), (name, number))
        for name, node in nodes(ast.FunctionDef):
            self.assertLessEqual(node.end_lineno - node.lineno + 1, 40, (name, node.name))

    def test_no_warnings(self):
        with warnings.catch_warnings():
            warnings.simplefilter("error")
            for name, source in SOURCES.items():
                compile(source, name, "exec")

    def test_words(self):
        for name, source in SOURCES.items():
            self.assertEqual(set(re.findall(r"\w+", source)) & BARRED_WORDS, set(), name)
            for word in ("dataclass", "overload", "contextmanager"):
                self.assertNotIn(word, source, name)

    def test_imports(self):
        for name, node in nodes((ast.Import, ast.ImportFrom)):
            self.assertIsInstance(node, ast.ImportFrom, name)
            self.assertIn(node, TREES[name].body, name)
            self.assertEqual(node.level, 0)
            self.assertTrue(node.module.startswith("heldback."), node.module)
            source = node.module.split(".", 1)[1]
            for alias in node.names:
                self.assertIsNone(alias.asname)
                defined = [row.name for row in TREES[source].body if isinstance(row, (ast.FunctionDef, ast.ClassDef))]
                defined += [row.targets[0].id for row in TREES[source].body if isinstance(row, ast.Assign)]
                self.assertIn(alias.name, defined, (name, node.module))
        for name, tree in TREES.items():
            rows = tree.body[1:] if is_docstring(tree.body[0]) else tree.body
            kinds = [isinstance(row, ast.ImportFrom) for row in rows]
            self.assertEqual(kinds, sorted(kinds, reverse=True), name)

    def test_imports_do_not_go_round(self):
        ahead = {name: {node.module.split(".")[1] for node in imports_of(name)} for name in TREES}
        while ahead:
            free = [name for name in ahead if not ahead[name] & set(ahead)]
            self.assertTrue(free, ahead)
            for name in free:
                del ahead[name]

    def test_module_level(self):
        for name, tree in TREES.items():
            functions = set()
            for at, row in enumerate(tree.body):
                if at == 0 and is_docstring(row):
                    continue
                self.assertIsInstance(row, (ast.ImportFrom, ast.FunctionDef, ast.ClassDef, ast.Assign), name)
                if isinstance(row, ast.FunctionDef):
                    functions.add(row.name)
                if isinstance(row, ast.Assign):
                    self.assertEqual([type(target) for target in row.targets], [ast.Name], name)
                    self.assert_plain(row.value, functions)

    def assert_plain(self, value, functions):
        if isinstance(value, ast.Dict):
            parts = value.keys + value.values
        elif isinstance(value, (ast.Tuple, ast.List)):
            parts = value.elts
        elif isinstance(value, ast.Name):
            self.assertIn(value.id, functions)
            return
        else:
            ast.literal_eval(value)
            return
        for part in parts:
            self.assertNotIsInstance(part, (ast.List, ast.Dict))
            self.assert_plain(part, functions)

    def test_one_binding_for_each_name(self):
        for name in TREES:
            bound = bound_at_module_level(name)
            self.assertEqual(len(bound), len(set(bound)), name)

    def test_statements(self):
        for name, tree in TREES.items():
            for node in ast.walk(tree):
                if isinstance(node, ast.stmt):
                    self.assertIsInstance(node, STATEMENTS, (name, node.lineno))
                if isinstance(node, ast.Expr) and not is_docstring(node):
                    self.assertIsInstance(node.value, (ast.Call, ast.Yield, ast.YieldFrom), (name, node.lineno))
                self.assertNotIsInstance(node, ast.Div, name)

    def test_functions(self):
        for name, node in nodes(ast.FunctionDef):
            self.assertEqual(node.args.posonlyargs, [], (name, node.name))
            for default in node.args.defaults + [given for given in node.args.kw_defaults if given is not None]:
                ast.literal_eval(default)
            for decorator in node.decorator_list:
                self.assertIn(ast.unparse(decorator), ("property", "staticmethod", "classmethod", node.name + ".setter"))
        for name, tree in TREES.items():
            for row in tree.body:
                if isinstance(row, (ast.FunctionDef, ast.ClassDef)):
                    self.assertEqual(row.decorator_list, [], (name, row.name))

    def test_classes(self):
        for name, node in nodes(ast.ClassDef):
            self.assertIn(node, TREES[name].body)
            self.assertEqual(node.keywords, [])
            methods = [row.name for row in node.body if isinstance(row, ast.FunctionDef) and not row.decorator_list]
            self.assertEqual(len(methods), len(set(methods)), (name, node.name))
            for method in methods:
                if method.startswith("__"):
                    self.assertIn(method.strip("_"), DOUBLE_UNDERSCORES, (name, node.name))
            if "__getitem__" in methods:
                self.assertIn("__iter__", methods, (name, node.name))

    def test_operators_have_the_parameters_of_the_rules(self):
        for name, node in nodes(ast.ClassDef):
            for row in node.body:
                if isinstance(row, ast.FunctionDef) and row.name.startswith("__"):
                    told = [parameter.arg for parameter in all_parameters(row)]
                    if row.name == "__getitem__":
                        self.assertEqual(told, ["self", "at"])
                    elif row.name == "__setitem__":
                        self.assertEqual(told, ["self", "at", "worth"])
                    elif row.name == "__contains__":
                        self.assertEqual(told, ["self", "x"])
                    elif row.name in ("__len__", "__iter__", "__repr__", "__str__"):
                        self.assertEqual(told, ["self"])
                    elif row.name not in ("__init__", "__call__"):
                        self.assertEqual(told, ["self", "other"], (name, node.name, row.name))

    def test_names(self):
        for name, tree in TREES.items():
            taken = {node.name for node in tree.body if isinstance(node, ast.ClassDef)}
            taken |= {alias.name for node in imports_of(name) for alias in node.names}
            for node in ast.walk(tree):
                bound = []
                if isinstance(node, ast.Name) and isinstance(node.ctx, ast.Store):
                    bound.append(node.id)
                if isinstance(node, ast.arg):
                    bound.append(node.arg)
                for word in bound:
                    self.assertNotIn(word, taken, (name, node.lineno))
                if isinstance(node, (ast.FunctionDef, ast.ClassDef)) and not node.name.startswith("__"):
                    bound.append(node.name)
                for word in bound:
                    self.assertRegex(word, r"^[A-Za-z][A-Za-z0-9_]*$", (name, node.lineno))
                    self.assertNotIn(word, BARRED_NAMES, (name, node.lineno))
                    self.assertFalse(hasattr(builtins, word), (name, node.lineno, word))

    def test_builtins(self):
        for name, tree in TREES.items():
            own = set(bound_at_module_level(name))
            for node in ast.walk(tree):
                if isinstance(node, ast.Name) and isinstance(node.ctx, ast.Load) and node.id not in own:
                    if hasattr(builtins, node.id):
                        self.assertIn(node.id, ALLOWED_BUILTINS, (name, node.lineno))

    def test_attributes_and_methods(self):
        methods = own_methods()
        properties = own_properties()
        stored = {node.attr for _, node in nodes(ast.Attribute) if isinstance(node.ctx, ast.Store)}
        self.assertEqual(stored & methods, set())
        self.assertEqual(stored & properties, set())
        self.assertEqual(stored & BARRED_ATTRIBUTES, set())
        for name, tree in TREES.items():
            called = {id(node.func) for node in ast.walk(tree) if isinstance(node, ast.Call)}
            for node in ast.walk(tree):
                if isinstance(node, ast.Attribute) and isinstance(node.ctx, ast.Load):
                    if id(node) in called:
                        self.assertIn(node.attr, ALLOWED_METHODS | methods | {"__init__"}, (name, node.lineno))
                    else:
                        self.assertIn(node.attr, stored | properties, (name, node.lineno))

    def test_errors_and_handlers(self):
        own = {node.name for node in own_classes()}
        for name, node in nodes(ast.ExceptHandler):
            caught = node.type.elts if isinstance(node.type, ast.Tuple) else [node.type]
            for kind in caught:
                self.assertIn(kind.id, own | set(FREELY_CAUGHT), (name, node.lineno))
        for name, node in nodes(ast.Raise):
            if node.exc is not None:
                self.assertIsInstance(node.exc, ast.Call, (name, node.lineno))
                self.assertIsInstance(node.exc.func, ast.Name, (name, node.lineno))

    def test_finally(self):
        for name, node in nodes(ast.Try):
            for row in node.finalbody:
                self.assertIsInstance(row, (ast.Pass, ast.Assign), (name, row.lineno))
                if isinstance(row, ast.Assign):
                    self.assertIsInstance(row.value, (ast.Name, ast.Attribute), (name, row.lineno))

    def test_is(self):
        for name, node in nodes(ast.Compare):
            for operator, other in zip(node.ops, node.comparators):
                if isinstance(operator, (ast.Is, ast.IsNot)):
                    self.assertIsInstance(other, ast.Constant, (name, node.lineno))
                    self.assertTrue(other.value is None or isinstance(other.value, bool), (name, node.lineno))

    def test_strings_and_numbers(self):
        for name, node in nodes(ast.Constant):
            self.assertNotIsInstance(node.value, (float, complex), (name, node.lineno))
            if isinstance(node.value, str):
                self.assertNotIn("%", node.value, (name, node.lineno))
                self.assertFalse(node.value.startswith("__") and node.value.endswith("__") and node.value, name)

    def test_any_and_all_take_lists(self):
        # A class of the package has operators, so these builtins get no generator.
        for name, node in nodes(ast.Call):
            if isinstance(node.func, ast.Name) and node.func.id in ("any", "all", "sum", "min", "max", "sorted"):
                for argument in node.args:
                    self.assertNotIsInstance(argument, ast.GeneratorExp, (name, node.lineno))


if __name__ == "__main__":
    unittest.main()

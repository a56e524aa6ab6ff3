"""The package keeps to its small part of the language: what a look at its files can tell of that."""

import ast
import builtins
import re
import unittest
from pathlib import Path

PACKAGE = Path(__file__).resolve().parent.parent / "circuits"

STATEMENTS = (
    "Module FunctionDef ClassDef Return Assign AugAssign For While If Raise Try ExceptHandler ImportFrom Expr Pass Break"
    " Continue"
).split()
EXPRESSIONS = (
    "BoolOp And Or BinOp Add Sub Mult FloorDiv Mod Pow LShift RShift BitOr BitXor BitAnd UnaryOp Not USub UAdd Invert"
    " Lambda IfExp Dict Set List Tuple ListComp comprehension Compare Eq NotEq Lt LtE Gt GtE Is IsNot In NotIn Call"
    " keyword Constant Attribute Subscript Slice Name Load Store JoinedStr FormattedValue arguments arg alias"
).split()
OWN_NAMES = (
    "len range enumerate zip min max sum abs sorted reversed int str bool list tuple dict set frozenset isinstance ord"
    " repr any all divmod Exception ValueError TypeError KeyError IndexError LookupError ZeroDivisionError"
    " ArithmeticError OverflowError RuntimeError NotImplementedError AttributeError StopIteration"
).split()
METHODS = (
    "append clear copy count endswith extend find get index insert isalnum isalpha isdigit islower isspace isupper"
    " items join keys ljust lower lstrip partition pop remove replace reverse rfind rjust rpartition rsplit rstrip"
    " setdefault split splitlines startswith strip update upper values zfill bit_length"
).split()
BANNED_NAMES = (
    "register mro elements open input version_info with_traceback add_note attrgetter breakpoint builtins compile"
    " copyright credits delattr dir eval exec exit gc getattr globals hasattr help id importlib license locals"
    " methodcaller os quit setattr super type vars sys"
).split()
BANNED_WORDS = (
    "type typing typing_extensions enum Enum IntEnum StrEnum Flag IntFlag Generic Protocol ABC ABCMeta namedtuple"
    " NamedTuple TypedDict TYPE_CHECKING abstractmethod"
).split()
CHANGING = "append clear extend insert pop remove reverse setdefault update".split()


def bound_names(tree):
    for node in ast.walk(tree):
        if isinstance(node, ast.Name) and isinstance(node.ctx, ast.Store):
            yield node, node.id
        elif isinstance(node, ast.arg):
            yield node, node.arg
        elif isinstance(node, (ast.FunctionDef, ast.ClassDef)):
            yield node, node.name
        elif isinstance(node, ast.ExceptHandler) and node.name:
            yield node, node.name


class Language(unittest.TestCase):
    def setUp(self):
        self.files = sorted(PACKAGE.glob("*.py"))
        self.texts = {path: path.read_bytes().decode("ascii") for path in self.files}
        self.trees = {path: ast.parse(text) for path, text in self.texts.items()}

    def nodes(self, *kinds):
        for path, tree in self.trees.items():
            for node in ast.walk(tree):
                if isinstance(node, kinds):
                    yield f"{path.name}:{getattr(node, 'lineno', 0)}", node

    def test_files(self):
        self.assertIn("__init__.py", [path.name for path in self.files])
        for path in PACKAGE.iterdir():
            if path.name != "__pycache__":
                self.assertRegex(path.name, r"^(__init__|[a-z][a-z0-9_]*)\.py$")
                self.assertNotIn(path.stem, dir(builtins))

    def test_signs_and_sizes(self):
        for path, text in self.texts.items():
            self.assertRegex(text, r"^[\n -~]*\Z", path.name)
            self.assertLessEqual(text.count("\n"), 400, path.name)
            self.assertLessEqual(max(len(line) for line in text.split("\n")), 120, path.name)
            for word in re.findall(r"\w+", text):
                self.assertNotIn(word, BANNED_WORDS, path.name)
        for where, node in self.nodes(ast.FunctionDef):
            self.assertLessEqual(node.end_lineno - node.lineno + 1, 40, where)

    def test_nothing_but_the_allowed_parts(self):
        for where, node in self.nodes(ast.AST):
            self.assertIn(node.__class__.__name__, STATEMENTS + EXPRESSIONS, where)
        for where, node in self.nodes(ast.FunctionDef, ast.ClassDef):
            self.assertEqual(node.decorator_list, [], where)
        for where, node in self.nodes(ast.arguments):
            self.assertFalse(node.vararg or node.kwarg or node.kwonlyargs or node.posonlyargs, where)
        for where, node in self.nodes(ast.For, ast.While):
            self.assertEqual(node.orelse, [], where)
        for where, node in self.nodes(ast.Try):
            self.assertEqual(node.finalbody, [], where)
        for where, node in self.nodes(ast.Assign):
            self.assertEqual(len(node.targets), 1, where)
        for where, node in self.nodes(ast.ListComp):
            self.assertEqual(len(node.generators), 1, where)
            self.assertLessEqual(len(node.generators[0].ifs), 1, where)

    def test_values(self):
        for where, node in self.nodes(ast.Constant):
            self.assertIsInstance(node.value, (bool, int, str, type(None)), where)
            if isinstance(node.value, str):
                self.assertNotIn("%", node.value, where)
        for where, node in self.nodes(ast.Compare):
            for operator, right in zip(node.ops, node.comparators):
                if isinstance(operator, (ast.Is, ast.IsNot)):
                    self.assertTrue(isinstance(right, ast.Constant) and right.value in (None, True, False), where)
        for where, node in self.nodes(ast.FormattedValue):
            self.assertIsInstance(node.value, ast.Name, where)
        for where, node in self.nodes(ast.BinOp):
            if isinstance(node.op, ast.Pow):
                self.assertIsInstance(node.right, ast.Constant, where)

    def test_texts_stand_by_themselves_at_a_files_head_alone(self):
        for path, tree in self.trees.items():
            self.assertIsNotNone(ast.get_docstring(tree), path.name)
            for node in ast.walk(tree):
                if isinstance(node, ast.Expr) and node != tree.body[0]:
                    self.assertIsInstance(node.value, ast.Call, f"{path.name}:{node.lineno}")

    def test_imports(self):
        draws = {}
        for path, tree in self.trees.items():
            draws[path.stem] = []
            for node in ast.walk(tree):
                if isinstance(node, ast.ImportFrom):
                    self.assertRegex(node.module, r"^circuits\.[a-z]+$")
                    self.assertIn(node, tree.body)
                    source = node.module.partition(".")[2]
                    draws[path.stem].append(source)
                    defined = [name for place, name in bound_names(self.trees[PACKAGE / f"{source}.py"])]
                    for alias in node.names:
                        self.assertIn(alias.name, defined, path.name)
                        self.assertIsNone(alias.asname)
        self.assertEqual(draws["__init__"], [])
        settled = []
        while len(settled) < len(draws):
            free = [name for name in draws if name not in settled and set(draws[name]) <= set(settled)]
            self.assertNotEqual(free, [], "files that draw from one another")
            settled.extend(free)

    def test_names(self):
        for path, tree in self.trees.items():
            imported = [alias.name for node in tree.body if isinstance(node, ast.ImportFrom) for alias in node.names]
            tops = imported + [name for node in tree.body for name in self.names_of(node)]
            self.assertEqual(len(tops), len(set(tops)), path.name)
            for node, name in bound_names(tree):
                where = f"{path.name}:{node.lineno} {name}"
                self.assertRegex(name, r"^[A-Za-z][A-Za-z0-9_]*$", where)
                self.assertNotIn(name, dir(builtins) + BANNED_NAMES + imported, where)
            for node in ast.walk(tree):
                if isinstance(node, ast.Name) and node.id in dir(builtins):
                    self.assertIn(node.id, OWN_NAMES, f"{path.name}:{node.lineno}")

    def names_of(self, node):
        if isinstance(node, ast.Assign):
            return [node.targets[0].id]
        if isinstance(node, (ast.FunctionDef, ast.ClassDef)):
            return [node.name]
        self.assertIsInstance(node, (ast.ImportFrom, ast.Expr))
        return []

    def test_methods_are_called_where_they_stand(self):
        called = [node.func for where, node in self.nodes(ast.Call)]
        for where, node in self.nodes(ast.Attribute):
            self.assertIn(node.attr, METHODS, where)
            self.assertIn(node, called, where)

    def test_lists_and_dicts_of_a_files_top_are_only_read(self):
        for path, tree in self.trees.items():
            kept = [
                node.targets[0].id for node in tree.body
                if isinstance(node, ast.Assign) and isinstance(node.value, (ast.List, ast.Dict))
            ]
            for node in ast.walk(tree):
                if isinstance(node, ast.Attribute) and isinstance(node.value, ast.Name) and node.value.id in kept:
                    self.assertNotIn(node.attr, CHANGING, f"{path.name}:{node.lineno}")
                if isinstance(node, ast.Subscript) and isinstance(node.value, ast.Name) and node.value.id in kept:
                    self.assertIsInstance(node.ctx, ast.Load, f"{path.name}:{node.lineno}")

    def test_sets_stand_within_sorted_or_len_or_beside_a_comparison(self):
        fine = []
        for where, node in self.nodes(ast.Call, ast.Compare, ast.BinOp):
            if isinstance(node, ast.Call):
                if isinstance(node.func, ast.Name) and node.func.id in ("sorted", "len"):
                    fine.extend(node.args)
            elif isinstance(node, ast.Compare):
                fine.extend([node.left] + node.comparators)
            else:
                fine.extend([node.left, node.right])
        for where, node in self.nodes(ast.Call):
            if isinstance(node.func, ast.Name) and node.func.id in ("set", "frozenset"):
                self.assertIn(node, fine, where)

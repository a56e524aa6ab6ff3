"""The package keeps to its small part of the language: what a look at its files can tell of that."""

import ast
import builtins
import re
import unittest
from pathlib import Path

PACKAGE = Path(__file__).resolve().parent.parent / "circuits"

STATEMENTS = (
    "Module FunctionDef ClassDef Return Assign AugAssign For While If Raise Try ExceptHandler ImportFrom Expr Pass Break"
    " Continue"
).split()
EXPRESSIONS = (
    "BoolOp And Or BinOp Add Sub Mult FloorDiv Mod Pow LShift RShift BitOr BitXor BitAnd UnaryOp Not USub UAdd Invert"
    " Lambda IfExp Dict Set List Tuple ListComp comprehension Compare Eq NotEq Lt LtE Gt GtE Is IsNot In NotIn Call"
    " keyword Constant Attribute Subscript Slice Name Load Store JoinedStr FormattedValue arguments arg alias"
).split()
OWN_NAMES = (
    "len range enumerate zip min max sum abs sorted reversed int str bool list tuple dict set frozenset isinstance ord"
    " repr any all divmod Exception ValueError TypeError KeyError IndexError LookupError ZeroDivisionError"
    " ArithmeticError OverflowError RuntimeError NotImplementedError AttributeError StopIteration"
).split()
METHODS = (
    "append clear copy count endswith extend find get index insert isalnum isalpha isdigit islower isspace isupper"
    " items join keys ljust lower lstrip partition pop remove replace reverse rfind rjust rpartition rsplit rstrip"
    " setdefault split splitlines startswith strip update upper values zfill bit_length"
).split()
BANNED_NAMES = (
    "register mro elements open input version_info with_traceback add_note attrgetter breakpoint builtins compile"
    " copyright credits delattr dir eval exec exit gc getattr globals hasattr help id importlib license locals"
    " methodcaller os quit setattr super type vars sys"
).split()
BANNED_WORDS = (
    "type typing typing_extensions enum Enum IntEnum StrEnum Flag IntFlag Generic Protocol ABC ABCMeta namedtuple"
    " NamedTuple TypedDict TYPE_CHECKING abstractmethod"
).split()
CHANGING = "append clear extend insert pop remove reverse setdefault update".split()
WALKED = "zip enumerate reversed range".split()
WALKED_METHODS = "items keys values".split()
WALKERS = "list tuple dict sorted sum any all enumerate zip min max".split()
ONLY_READ = "get index count find items keys values".split()
KEYWORDS = {
    "sorted": ("key", "reverse"), "min": ("key", "default"), "max": ("key", "default"), "sum": ("start",),
    "enumerate": ("start",), "zip": ("strict",),
}
KINDS = "int str bool list tuple dict".split()


def called(node):
    """The plain name that a call calls, if it is one."""
    if isinstance(node, ast.Call) and isinstance(node.func, ast.Name):
        return node.func.id
    return None


def is_walk(node):
    if called(node) in WALKED:
        return True
    return isinstance(node, ast.Call) and isinstance(node.func, ast.Attribute) and node.func.attr in WALKED_METHODS


def walked_names(node):
    """The names that a loop walks, itself or through enumerate, zip and their like."""
    if isinstance(node, ast.Name):
        return [node.id]
    if is_walk(node):
        inner = node.args + ([node.func.value] if isinstance(node.func, ast.Attribute) else [])
        return [name for one in inner for name in walked_names(one)]
    return []


def changed_names(node):
    """The names whose list or dict is changed somewhere in a node."""
    for part in ast.walk(node):
        if isinstance(part, ast.Call) and isinstance(part.func, ast.Attribute) and part.func.attr in CHANGING:
            if isinstance(part.func.value, ast.Name):
                yield part.func.value.id
        if isinstance(part, ast.Subscript) and not isinstance(part.ctx, ast.Load) and isinstance(part.value, ast.Name):
            yield part.value.id


def bound_names(tree):
    for node in ast.walk(tree):
        if isinstance(node, ast.Name) and isinstance(node.ctx, ast.Store):
            yield node, node.id
        elif isinstance(node, ast.arg):
            yield node, node.arg
        elif isinstance(node, (ast.FunctionDef, ast.ClassDef)):
            yield node, node.name
        elif isinstance(node, ast.ExceptHandler) and node.name:
            yield node, node.name


class Language(unittest.TestCase):
    def setUp(self):
        self.files = sorted(PACKAGE.glob("*.py"))
        self.texts = {path: path.read_bytes().decode("ascii") for path in self.files}
        self.trees = {path: ast.parse(text) for path, text in self.texts.items()}

    def nodes(self, *kinds):
        for path, tree in self.trees.items():
            for node in ast.walk(tree):
                if isinstance(node, kinds):
                    yield f"{path.name}:{getattr(node, 'lineno', 0)}", node

    def test_files(self):
        self.assertIn("__init__.py", [path.name for path in self.files])
        for path in PACKAGE.iterdir():
            if path.name != "__pycache__":
                self.assertRegex(path.name, r"^(__init__|[a-z][a-z0-9_]*)\.py$")
                self.assertNotIn(path.stem, dir(builtins))

    def test_signs_and_sizes(self):
        for path, text in self.texts.items():
            self.assertRegex(text, r"^[\n -~]*\Z", path.name)
            self.assertLessEqual(text.count("\n"), 400, path.name)
            self.assertLessEqual(max(len(line) for line in text.split("\n")), 120, path.name)
            for word in re.findall(r"\w+", text):
                self.assertNotIn(word, BANNED_WORDS, path.name)
            for part in ("dataclass", "overload", "contextmanager"):
                self.assertNotIn(part, text, path.name)
            self.assertIsNone(re.search(r"\\[^nt\\'\"]", text), path.name)
            self.assertIsNone(re.search(r"\d{901}", text), path.name)
        for where, node in self.nodes(ast.FunctionDef):
            self.assertLessEqual(node.end_lineno - node.lineno + 1, 40, where)

    def test_nothing_but_the_allowed_parts(self):
        for where, node in self.nodes(ast.AST):
            self.assertIn(node.__class__.__name__, STATEMENTS + EXPRESSIONS, where)
        for where, node in self.nodes(ast.FunctionDef, ast.ClassDef):
            self.assertEqual(node.decorator_list, [], where)
        for where, node in self.nodes(ast.arguments):
            self.assertFalse(node.vararg or node.kwarg or node.kwonlyargs or node.posonlyargs, where)
        for where, node in self.nodes(ast.For, ast.While):
            self.assertEqual(node.orelse, [], where)
        for where, node in self.nodes(ast.Try):
            self.assertEqual(node.finalbody, [], where)
        for where, node in self.nodes(ast.Assign):
            self.assertEqual(len(node.targets), 1, where)
        for where, node in self.nodes(ast.ListComp):
            self.assertEqual(len(node.generators), 1, where)
            self.assertLessEqual(len(node.generators[0].ifs), 1, where)

    def test_values(self):
        for where, node in self.nodes(ast.Constant):
            self.assertIsInstance(node.value, (bool, int, str, type(None)), where)
            if isinstance(node.value, str):
                self.assertNotIn("%", node.value, where)
        for where, node in self.nodes(ast.Compare):
            for operator, right in zip(node.ops, node.comparators):
                if isinstance(operator, (ast.Is, ast.IsNot)):
                    self.assertTrue(isinstance(right, ast.Constant) and right.value in (None, True, False), where)
        for where, node in self.nodes(ast.FormattedValue):
            self.assertIsInstance(node.value, ast.Name, where)
            self.assertIsNone(node.format_spec, where)
            self.assertIn(node.conversion, (-1, ord("r")), where)
        for where, node in self.nodes(ast.BinOp):
            if isinstance(node.op, ast.Pow):
                self.assertIsInstance(node.right, ast.Constant, where)
                self.assertIn(node.right.value, range(65), where)

    def test_texts_stand_by_themselves_at_a_files_head_alone(self):
        for path, tree in self.trees.items():
            self.assertIsNotNone(ast.get_docstring(tree), path.name)
            for node in ast.walk(tree):
                if isinstance(node, ast.Expr) and node != tree.body[0]:
                    self.assertIsInstance(node.value, ast.Call, f"{path.name}:{node.lineno}")

    def test_imports(self):
        draws = {}
        for path, tree in self.trees.items():
            draws[path.stem] = []
            for node in ast.walk(tree):
                if isinstance(node, ast.ImportFrom):
                    self.assertRegex(node.module, r"^circuits\.[a-z]+$")
                    self.assertIn(node, tree.body)
                    source = node.module.partition(".")[2]
                    draws[path.stem].append(source)
                    defined = [name for top in self.trees[PACKAGE / f"{source}.py"].body
                               if not isinstance(top, ast.ImportFrom) for name in self.names_of(top)]
                    for alias in node.names:
                        self.assertIn(alias.name, defined, path.name)
                        self.assertIsNone(alias.asname)
        self.assertEqual(draws["__init__"], [])
        settled = []
        while len(settled) < len(draws):
            free = [name for name in draws if name not in settled and set(draws[name]) <= set(settled)]
            self.assertNotEqual(free, [], "files that draw from one another")
            settled.extend(free)

    def test_names(self):
        for path, tree in self.trees.items():
            imported = [alias.name for node in tree.body if isinstance(node, ast.ImportFrom) for alias in node.names]
            tops = imported + [name for node in tree.body for name in self.names_of(node)]
            self.assertEqual(len(tops), len(set(tops)), path.name)
            for node, name in bound_names(tree):
                where = f"{path.name}:{node.lineno} {name}"
                self.assertRegex(name, r"^[A-Za-z][A-Za-z0-9_]*$", where)
                self.assertNotIn(name, dir(builtins) + BANNED_NAMES + imported, where)
            for node in ast.walk(tree):
                if isinstance(node, ast.Name) and node.id in dir(builtins):
                    self.assertIn(node.id, OWN_NAMES, f"{path.name}:{node.lineno}")

    def names_of(self, node):
        if isinstance(node, ast.Assign):
            return [node.targets[0].id]
        if isinstance(node, (ast.FunctionDef, ast.ClassDef)):
            return [node.name]
        self.assertIsInstance(node, (ast.ImportFrom, ast.Expr))
        return []

    def test_no_annotations_and_nothing_tried(self):
        for where, node in self.nodes(ast.arg):
            self.assertIsNone(node.annotation, where)
        for where, node in self.nodes(ast.FunctionDef):
            self.assertIsNone(node.returns, where)
        self.assertEqual(list(self.nodes(ast.AnnAssign, ast.Try)), [])

    def test_classes_are_errors_without_a_body(self):
        for where, node in self.nodes(ast.ClassDef):
            self.assertTrue(where.startswith("errors.py"), where)
            self.assertEqual([part.__class__ for part in node.body], [ast.Pass], where)
        for where, node in self.nodes(ast.Raise):
            self.assertIsInstance(node.exc, ast.Call, where)
            self.assertIsNone(node.cause, where)

    def test_words_of_refusals_name_no_number(self):
        for where, node in self.nodes(ast.Raise):
            for part in ast.walk(node):
                if isinstance(part, ast.FormattedValue):
                    self.assertIn(part.value.id, ("name", "wrong"), where)

    def test_two_lambdas_do_not_stand_on_one_line(self):
        lines = [where for where, node in self.nodes(ast.Lambda)]
        self.assertEqual(len(lines), len(set(lines)))

    def test_pythons_own_are_called_and_with_their_keywords_alone(self):
        fine = []
        for where, node in self.nodes(ast.Call):
            fine.append(node.func)
            allowed = KEYWORDS.get(called(node), ())
            for keyword in node.keywords:
                self.assertIn(keyword.arg, allowed, where)
            if called(node) == "isinstance":
                second = node.args[1]
                kinds = second.elts if isinstance(second, ast.Tuple) else [second]
                self.assertTrue(all(kind.id in KINDS for kind in kinds), where)
                fine.extend(kinds)
        for where, node in self.nodes(ast.ClassDef):
            fine.extend(node.bases)
        for where, node in self.nodes(ast.Name):
            if node.id in dir(builtins):
                self.assertIn(node, fine, where)

    def test_walks_are_walked_on_the_spot(self):
        fine = []
        for where, node in self.nodes(ast.For, ast.comprehension, ast.Call):
            if not isinstance(node, ast.Call):
                fine.append(node.iter)
            elif called(node) in WALKERS:
                fine.extend(node.args if called(node) in ("zip", "enumerate") else node.args[:1])
        for where, node in self.nodes(ast.Call):
            if is_walk(node):
                self.assertIn(node, fine, where)

    def test_what_a_loop_walks_is_not_changed_in_it(self):
        for where, node in self.nodes(ast.For):
            names = walked_names(node.iter)
            for statement in node.body:
                for name in changed_names(statement):
                    self.assertNotIn(name, names, where)

    def test_methods_are_called_where_they_stand(self):
        called = [node.func for where, node in self.nodes(ast.Call)]
        for where, node in self.nodes(ast.Attribute):
            self.assertIn(node.attr, METHODS, where)
            self.assertIn(node, called, where)

    def test_lists_and_dicts_of_a_files_top_are_only_read(self):
        for path, tree in self.trees.items():
            kept = [
                node.targets[0].id for node in tree.body
                if isinstance(node, ast.Assign) and isinstance(node.value, (ast.List, ast.Dict))
            ]
            read = []
            for node in ast.walk(tree):
                if isinstance(node, ast.Subscript):
                    read.append(node.value)
                elif isinstance(node, ast.Attribute) and node.attr in ONLY_READ:
                    read.append(node.value)
                elif isinstance(node, ast.Compare):
                    read.extend(node.comparators)
                elif isinstance(node, (ast.For, ast.comprehension)):
                    read.append(node.iter)
                elif called(node) in ("len", "list", "dict", "tuple", "sorted"):
                    read.extend(node.args)
            for node in ast.walk(tree):
                if isinstance(node, ast.Name) and node.id in kept and isinstance(node.ctx, ast.Load):
                    self.assertIn(node, read, f"{path.name}:{node.lineno}")
            for node in ast.walk(tree):
                if isinstance(node, ast.Attribute) and isinstance(node.value, ast.Name) and node.value.id in kept:
                    self.assertNotIn(node.attr, CHANGING, f"{path.name}:{node.lineno}")
                if isinstance(node, ast.Subscript) and isinstance(node.value, ast.Name) and node.value.id in kept:
                    self.assertIsInstance(node.ctx, ast.Load, f"{path.name}:{node.lineno}")

    def test_sets_stand_within_sorted_or_len_or_beside_a_comparison(self):
        fine = []
        for where, node in self.nodes(ast.Call, ast.Compare, ast.BinOp):
            if isinstance(node, ast.Call):
                if isinstance(node.func, ast.Name) and node.func.id in ("sorted", "len"):
                    fine.extend(node.args)
            elif isinstance(node, ast.Compare):
                fine.extend([node.left] + node.comparators)
            else:
                fine.extend([node.left, node.right])
        for where, node in self.nodes(ast.Call):
            if isinstance(node.func, ast.Name) and node.func.id in ("set", "frozenset"):
                self.assertIn(node, fine, where)

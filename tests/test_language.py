"""The package keeps to the small part of Python that it's written in, as far as this can be seen in its files."""

import ast
import builtins
import pathlib
import re
import unittest

ROOT = pathlib.Path(__file__).resolve().parent.parent
PACKAGE = ROOT / "ordersheets"

USED_BUILTINS = set(
    "len range enumerate zip min max sum abs sorted reversed int str bool list tuple dict set frozenset isinstance ord "
    "repr any all divmod Exception ValueError TypeError KeyError IndexError LookupError ZeroDivisionError "
    "ArithmeticError OverflowError RuntimeError NotImplementedError AttributeError StopIteration".split())
METHODS = set(
    "append clear copy count endswith extend find get index insert isalnum isalpha isdigit islower isspace isupper "
    "items join keys ljust lower lstrip partition pop remove replace reverse rfind rjust rpartition rsplit rstrip "
    "setdefault split splitlines startswith strip update upper values zfill bit_length".split())
OWN_METHODS = ("__init__", "__eq__", "__repr__", "__str__", "__len__")
NOT_AS_VALUES = set(
    "items keys values pop update append clear extend insert remove reverse setdefault sort args encode format "
    "register mro elements open input".split())
WORDS = re.compile(
    r"\b(type|typing|typing_extensions|enum|Enum|IntEnum|StrEnum|Flag|IntFlag|Generic|Protocol|ABC|ABCMeta|namedtuple"
    r"|NamedTuple|TypedDict|TYPE_CHECKING|abstractmethod)\b|dataclass|overload|contextmanager")
NODES = (
    "Module Expr Constant ImportFrom alias FunctionDef ClassDef arguments arg Return Assign AugAssign Name Attribute "
    "Subscript Slice Load Store If While For Break Continue Pass Raise Try ExceptHandler Call List Tuple Dict ListComp "
    "comprehension Compare BoolOp BinOp UnaryOp IfExp And Or Not USub Add Sub Mult FloorDiv Mod Pow Eq NotEq Lt LtE Gt "
    "GtE In NotIn Is IsNot JoinedStr FormattedValue Lambda keyword").split()
PLAIN = (ast.Constant, ast.Tuple, ast.List, ast.Dict, ast.UnaryOp, ast.USub, ast.Load)


def files():
    return sorted(PACKAGE.glob("*.py"))


def trees():
    for path in files():
        yield path.name, ast.parse(path.read_text())


def nodes(tree, *kinds):
    return [node for node in ast.walk(tree) if isinstance(node, kinds)]


class Files(unittest.TestCase):
    def test_only_python_files_lie_in_the_package(self):
        others = [path.name for path in PACKAGE.iterdir() if path.suffix != ".py" and path.name != "__pycache__"]
        self.assertEqual(others, [])
        for path in files():
            self.assertRegex(path.name, r"^([a-z][a-z0-9_]*|__init__)\.py$")
            self.assertNotIn(path.stem, dir(builtins))

    def test_signs_and_sizes(self):
        for path in files():
            text = path.read_bytes()
            self.assertTrue(all(byte == 10 or 32 <= byte <= 126 for byte in text), path.name)
            rows = text.decode().splitlines()
            self.assertLessEqual(len(rows), 400, path.name)
            self.assertLessEqual(max(map(len, rows)), 120, path.name)
            self.assertIsNone(WORDS.search(text.decode()), path.name)

    def test_functions_are_small(self):
        for name, tree in trees():
            for function in nodes(tree, ast.FunctionDef):
                self.assertLessEqual(function.end_lineno - function.lineno + 1, 40, (name, function.name))


class Forms(unittest.TestCase):
    def test_only_these_forms_are_used(self):
        for name, tree in trees():
            for node in ast.walk(tree):
                self.assertIn(ast.dump(node).split("(")[0], NODES, (name, getattr(node, "lineno", 0)))

    def test_the_top_of_a_file_holds_plain_values(self):
        for name, tree in trees():
            for node in tree.body[1:]:
                self.assertIsInstance(node, (ast.ImportFrom, ast.FunctionDef, ast.ClassDef, ast.Assign), name)
                if isinstance(node, ast.Assign):
                    for part in ast.walk(node.value):
                        self.assertIsInstance(part, PLAIN, (name, node.lineno))

    def test_each_name_is_bound_once_at_the_top(self):
        for name, tree in trees():
            bound = []
            for node in tree.body:
                if isinstance(node, ast.ImportFrom):
                    bound += [alias.name for alias in node.names]
                elif isinstance(node, ast.Assign):
                    bound += [node.targets[0].id]
                elif isinstance(node, (ast.FunctionDef, ast.ClassDef)):
                    bound += [node.name]
            self.assertEqual(len(bound), len(set(bound)), name)

    def test_assignments_have_one_plain_target(self):
        for name, tree in trees():
            for node in nodes(tree, ast.Assign):
                self.assertEqual(len(node.targets), 1, (name, node.lineno))
                self.assertNotIsInstance(node.targets[0], (ast.Tuple, ast.List), (name, node.lineno))

    def test_texts(self):
        for name, tree in trees():
            for node in nodes(tree, ast.Constant):
                self.assertIsInstance(node.value, (int, str, type(None)), (name, node.lineno))
                if isinstance(node.value, str):
                    self.assertNotIn("%", node.value, (name, node.lineno))

    def test_no_loop_has_an_else_and_no_try_a_last_part(self):
        for name, tree in trees():
            for node in nodes(tree, ast.For, ast.While):
                self.assertEqual(node.orelse, [], name)
            for node in nodes(tree, ast.Try):
                self.assertEqual(node.finalbody, [], name)
                for handler in node.handlers:
                    self.assertIsNotNone(handler.type, name)

    def test_functions_have_plain_parameters(self):
        for name, tree in trees():
            for node in nodes(tree, ast.FunctionDef, ast.Lambda):
                given = node.args
                self.assertFalse(given.vararg or given.kwarg or given.kwonlyargs or given.posonlyargs, name)
            for node in nodes(tree, ast.FunctionDef, ast.ClassDef):
                self.assertEqual(node.decorator_list, [], (name, node.name))


class Names(unittest.TestCase):
    def test_imports(self):
        drawn = {}
        for name, tree in trees():
            drawn[name] = []
            for node in nodes(tree, ast.ImportFrom):
                self.assertIn(node, tree.body, name)
                self.assertRegex(node.module, r"^ordersheets\.[a-z]+$")
                source = node.module.split(".")[1] + ".py"
                drawn[name].append(source)
                defined = ast.parse((PACKAGE / source).read_text()).body
                given = [other.name for other in defined if isinstance(other, (ast.FunctionDef, ast.ClassDef))]
                given += [other.targets[0].id for other in defined if isinstance(other, ast.Assign)]
                for alias in node.names:
                    self.assertIn(alias.name, given, name)
                    self.assertIsNone(alias.asname, name)
                    used = [other.id for other in nodes(tree, ast.Name)]
                    self.assertIn(alias.name, used, name)
        self.assertEqual(drawn["__init__.py"], [])
        for name in drawn:
            self.assertNotIn(name, reached(drawn, name))

    def test_names_are_plain_and_new(self):
        for name, tree in trees():
            taken = dir(builtins) + [node.name for node in nodes(tree, ast.ClassDef)]
            for node in nodes(tree, ast.ImportFrom):
                taken += [alias.name for alias in node.names]
            bound = [node.arg for node in nodes(tree, ast.arg)]
            bound += [node.id for node in nodes(tree, ast.Name) if isinstance(node.ctx, ast.Store)]
            bound += [node.name for node in nodes(tree, ast.ExceptHandler) if node.name]
            for word in bound:
                self.assertRegex(word, r"^[A-Za-z][A-Za-z0-9_]*$", name)
                self.assertNotIn(word, taken, name)

    def test_builtin_names(self):
        for name, tree in trees():
            for node in nodes(tree, ast.Name):
                if node.id in dir(builtins):
                    self.assertIn(node.id, USED_BUILTINS, (name, node.lineno))

    def test_methods_and_values(self):
        methods, values = set(), set()
        for name, tree in trees():
            for node in nodes(tree, ast.ClassDef):
                for method in node.body:
                    if isinstance(method, ast.FunctionDef):
                        methods.add(method.name)
            for node in nodes(tree, ast.Attribute):
                if isinstance(node.ctx, ast.Store):
                    values.add(node.attr)
        self.assertEqual(methods & values, set())
        self.assertEqual(values & NOT_AS_VALUES, set())
        for own in (str, int, list, dict, set, bytes):
            self.assertEqual(values & set(dir(own)), set())
            self.assertEqual((methods - set(OWN_METHODS)) & set(dir(own)), set())
        for method in methods:
            self.assertTrue(method in OWN_METHODS or not method.startswith("_"), method)
        for name, tree in trees():
            for node in nodes(tree, ast.Call):
                if isinstance(node.func, ast.Attribute):
                    self.assertIn(node.func.attr, METHODS | methods, (name, node.lineno))
            for node in nodes(tree, ast.Attribute):
                self.assertIn(node.attr, METHODS | methods | values, (name, node.lineno))


def reached(drawn, name):
    found = []
    left = list(drawn[name])
    while left:
        other = left.pop()
        if other not in found:
            found.append(other)
            left += drawn[other]
    return found

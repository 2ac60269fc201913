"""The package keeps to the small part of Python that LANGUAGE.md tells, as far as its text shows it."""

import ast
import builtins
import re
import unittest
from pathlib import Path

PACKAGE = Path(__file__).resolve().parent.parent / "shorterline"

BUILTINS = set(
    "len range enumerate zip min max sum abs sorted reversed int str bool bytes list tuple dict set frozenset "
    "isinstance ord repr any all divmod Exception ValueError TypeError KeyError IndexError LookupError "
    "ZeroDivisionError ArithmeticError OverflowError RuntimeError NotImplementedError AttributeError "
    "StopIteration".split()
)
METHODS = set(
    "append clear copy count endswith extend find get index insert isalnum isalpha isdigit islower isspace "
    "isupper items join keys ljust lower lstrip partition pop remove replace reverse rfind rjust rpartition "
    "rsplit rstrip setdefault split splitlines startswith strip update upper values zfill bit_length "
    "sort add discard __init__".split()
)
NODES = set(
    "Module Expr Constant ImportFrom alias FunctionDef arguments arg ClassDef Assign AugAssign If While For Return "
    "Break Continue Pass Raise Try ExceptHandler Assert Delete Call keyword Name Load Store Del Attribute Subscript "
    "Slice Tuple List Dict Set BinOp Add Sub Mult FloorDiv Mod Pow LShift RShift BitAnd BitOr BitXor UnaryOp USub "
    "Not Invert BoolOp And Or Compare Eq NotEq Lt LtE Gt GtE Is IsNot In NotIn IfExp ListComp DictComp SetComp "
    "comprehension JoinedStr FormattedValue Lambda Starred".split()
)
FORBIDDEN = re.compile(
    r"\b(type|typing|typing_extensions|enum|Enum|IntEnum|StrEnum|Flag|IntFlag|Generic|Protocol|ABC|ABCMeta|namedtuple"
    r"|NamedTuple|TypedDict|TYPE_CHECKING|abstractmethod)\b|dataclass|overload|contextmanager"
)
NEVER_NAMES = set(
    "register mro elements open input version_info with_traceback add_note attrgetter breakpoint builtins compile "
    "copyright credits delattr dir eval exec exit gc getattr globals hasattr help id importlib license locals "
    "methodcaller os quit setattr super vars sys chr print".split()
)


def files():
    return sorted(PACKAGE.rglob("*.py"))


def tree_of(path):
    return ast.parse(path.read_text(), str(path))


def drawn(tree):
    return [node for node in tree.body if isinstance(node, ast.ImportFrom)]


def bound_at_top(tree):
    names = []
    for node in tree.body:
        if isinstance(node, (ast.FunctionDef, ast.ClassDef)):
            names.append(node.name)
        elif isinstance(node, ast.Assign):
            names.extend(target.id for target in node.targets)
        elif isinstance(node, ast.ImportFrom):
            names.extend(alias.asname or alias.name for alias in node.names)
    return names


def is_plain_value(node):
    if isinstance(node, (ast.Tuple, ast.List)):
        return all(is_plain_value(item) for item in node.elts)
    if isinstance(node, ast.Dict):
        return all(is_plain_value(item) for item in node.keys + node.values)
    if isinstance(node, ast.BinOp):
        return is_plain_value(node.left) and is_plain_value(node.right)
    if isinstance(node, ast.UnaryOp):
        return is_plain_value(node.operand)
    return isinstance(node, (ast.Constant, ast.Name))


# Kept, so that a node met again is the same one.
NODES_OF_ALL = [
    (f"{path.name}:{getattr(node, 'lineno', 0)}", node) for path in files() for node in ast.walk(tree_of(path))
]


class LanguageTest(unittest.TestCase):
    def test_files_and_signs(self):
        self.assertTrue((PACKAGE / "__init__.py").is_file())
        for path in PACKAGE.rglob("*"):
            if "__pycache__" in path.parts:
                continue
            self.assertTrue(path.is_file(), path)
            self.assertRegex(path.name, r"^([a-z][a-z0-9_]*|__init__|__main__)\.py$")
            text = path.read_bytes().decode("ascii")
            rows = text.split("\n")
            self.assertLessEqual(len(rows), 401, path)
            self.assertTrue(all(len(row) <= 120 for row in rows), path)
            self.assertRegex(text, r"\A[\n -~]*\Z", path)
            self.assertIsNone(FORBIDDEN.search(text), path)

    def test_nodes(self):
        for place, node in NODES_OF_ALL:
            self.assertIn(type(node).__name__, NODES, place)
            if isinstance(node, ast.Constant):
                self.assertNotIsInstance(node.value, (float, complex), place)
                self.assertIsNot(node.value, Ellipsis, place)
                if isinstance(node.value, str):
                    self.assertNotIn("%", node.value, place)
            if isinstance(node, (ast.For, ast.While)):
                self.assertEqual(node.orelse, [], place)

    def test_top_of_files(self):
        for path in files():
            tree = tree_of(path)
            self.assertIsNotNone(ast.get_docstring(tree), path)
            for node in tree.body[1:]:
                self.assertIsInstance(node, (ast.ImportFrom, ast.FunctionDef, ast.ClassDef, ast.Assign), path)
                if isinstance(node, ast.Assign):
                    self.assertTrue(is_plain_value(node.value), path)
            names = bound_at_top(tree)
            self.assertEqual(len(names), len(set(names)), path)
            self.assertFalse(set(names) & set(dir(builtins)), path)

    def test_imports(self):
        draws = {}
        for path in files():
            draws[path.stem] = []
            for row in drawn(tree_of(path)):
                package, dot, name = row.module.partition(".")
                self.assertEqual((package, dot, row.level), ("shorterline", ".", 0), path)
                source = tree_of(PACKAGE / (name + ".py"))
                own = [node.name for node in source.body if hasattr(node, "name")]
                own += [t.id for node in source.body if isinstance(node, ast.Assign) for t in node.targets]
                for alias in row.names:
                    self.assertIn(alias.name, own, path)
                draws[path.stem].append(name)
        while draws:
            free = [name for name in draws if not any(other in draws for other in draws[name])]
            self.assertTrue(free, f"files draw from one another: {sorted(draws)}")
            for name in free:
                del draws[name]

    def test_functions_and_classes(self):
        for place, node in NODES_OF_ALL:
            if isinstance(node, (ast.FunctionDef, ast.ClassDef)):
                self.assertEqual(node.decorator_list, [], place)
            if isinstance(node, ast.FunctionDef):
                self.assertLessEqual(node.end_lineno - node.lineno + 1, 40, place)
                self.assertIsNone(node.args.vararg or node.args.kwarg, place)
                self.assertEqual(node.args.posonlyargs, [], place)
            if isinstance(node, ast.ClassDef):
                self.assertLessEqual(len(node.bases), 1, place)
                for row in node.body[1:]:
                    self.assertIsInstance(row, ast.FunctionDef, place)

    def test_names(self):
        for place, node in NODES_OF_ALL:
            if isinstance(node, ast.Name):
                name, given = node.id, not isinstance(node.ctx, ast.Load)
            elif isinstance(node, ast.arg):
                name, given = node.arg, True
            elif isinstance(node, (ast.FunctionDef, ast.ClassDef)):
                name, given = node.name, node.name != "__init__"
            else:
                continue
            self.assertRegex(name, r"^([A-Za-z][A-Za-z0-9_]*|__init__)$", place)
            self.assertNotIn(name, NEVER_NAMES, place)
            if name in dir(builtins):
                self.assertIn(name, BUILTINS, place)
                self.assertFalse(given, place)

    def test_locals_are_not_called_like_imports_or_classes(self):
        for path in files():
            tree = tree_of(path)
            taken = {alias.name for row in drawn(tree) for alias in row.names}
            taken |= {node.name for node in tree.body if isinstance(node, ast.ClassDef)}
            for node in ast.walk(tree):
                if isinstance(node, ast.arg):
                    self.assertNotIn(node.arg, taken, path)
                if isinstance(node, ast.Name) and isinstance(node.ctx, ast.Store):
                    self.assertNotIn(node.id, taken, path)

    def test_methods_that_are_called(self):
        own = {
            row.name for _, node in NODES_OF_ALL if isinstance(node, ast.ClassDef)
            for row in node.body if isinstance(row, ast.FunctionDef)
        }
        for place, node in NODES_OF_ALL:
            if isinstance(node, ast.Call) and isinstance(node.func, ast.Attribute):
                self.assertIn(node.func.attr, METHODS | own, place)

    def test_methods_and_values_of_objects(self):
        methods, given, asked = {}, {}, {}
        called = {id(node.func) for _, node in NODES_OF_ALL if isinstance(node, ast.Call)}
        for place, node in NODES_OF_ALL:
            if isinstance(node, ast.ClassDef):
                names = [row.name for row in node.body if isinstance(row, ast.FunctionDef)]
                self.assertEqual(len(names), len(set(names)), place)
                methods.update((name, place) for name in names if name != "__init__")
            if isinstance(node, ast.Attribute) and id(node) not in called:
                (asked if isinstance(node.ctx, ast.Load) else given)[node.attr] = place
        self.assertEqual(set(methods) & set(given), set())
        self.assertLessEqual(set(asked), set(given))
        of_python = {name for kind in (str, int, list, dict, set, bytes) for name in dir(kind)}
        self.assertEqual((set(methods) | set(given)) & of_python, set())

    def test_what_is_walked_is_not_changed(self):
        changes = ("append", "clear", "extend", "insert", "pop", "remove", "reverse", "setdefault", "update", "sort")
        for place, loop in NODES_OF_ALL:
            if not isinstance(loop, ast.For):
                continue
            walked = {node.id for node in ast.walk(loop.iter) if isinstance(node, ast.Name)}
            for node in ast.walk(loop):
                if isinstance(node, ast.Call) and isinstance(node.func, ast.Attribute) and node.func.attr in changes:
                    self.assertFalse(isinstance(node.func.value, ast.Name) and node.func.value.id in walked, place)
                if isinstance(node, ast.Subscript) and not isinstance(node.ctx, ast.Load):
                    self.assertFalse(isinstance(node.value, ast.Name) and node.value.id in walked, place)

    def test_operators(self):
        for place, node in NODES_OF_ALL:
            if isinstance(node, ast.Compare):
                things = [node.left] + node.comparators
                for operator, left, right in zip(node.ops, things, things[1:]):
                    if isinstance(operator, (ast.Is, ast.IsNot)):
                        plain = [x.value for x in (left, right) if isinstance(x, ast.Constant)]
                        self.assertTrue(any(x is None or x is True or x is False for x in plain), place)
            if isinstance(node, ast.BinOp) and isinstance(node.op, ast.Pow):
                self.assertIsInstance(node.right, ast.Constant, place)

    def test_walked_at_once(self):
        lazy = ("zip", "enumerate", "reversed", "range")
        for place, node in NODES_OF_ALL:
            if isinstance(node, ast.Assign) and isinstance(node.value, ast.Call):
                called = node.value.func
                self.assertFalse(isinstance(called, ast.Name) and called.id in lazy, place)


if __name__ == "__main__":
    unittest.main()

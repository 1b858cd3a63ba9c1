"""Tests of the package's form: those rules of the language that can be looked up in a file by itself."""

import ast
import builtins
import pathlib
import re
import unittest

PACKAGE = pathlib.Path(__file__).resolve().parent.parent / "pairwebs"
FILES = sorted(PACKAGE.rglob("*.py"))

BUILTINS = set(
    "len range enumerate zip min max sum abs sorted reversed int str bool bytes list tuple dict set frozenset "
    "isinstance ord repr any all divmod Exception ValueError TypeError KeyError IndexError LookupError "
    "ZeroDivisionError ArithmeticError OverflowError RuntimeError NotImplementedError AttributeError "
    "StopIteration".split()
)
WORDS = re.compile(
    r"\b(type|typing|typing_extensions|enum|Enum|IntEnum|StrEnum|Flag|IntFlag|Generic|Protocol|ABC|ABCMeta|"
    r"namedtuple|NamedTuple|TypedDict|TYPE_CHECKING|abstractmethod)\b|dataclass|overload|contextmanager"
)
NODES = (
    ast.With, ast.Match, ast.Global, ast.Nonlocal, ast.Yield, ast.YieldFrom, ast.AsyncFunctionDef, ast.Await,
    ast.GeneratorExp, ast.NamedExpr, ast.Div, ast.Import,
)


def bound_names(node):
    """The names that a node binds."""
    if isinstance(node, (ast.FunctionDef, ast.ClassDef)):
        return [node.name]
    if isinstance(node, ast.arg):
        return [node.arg]
    if isinstance(node, ast.Name) and isinstance(node.ctx, ast.Store):
        return [node.id]
    return []


def imports_of(tree):
    """The modules of the package that a file imports from, each with the names that it takes."""
    froms = [node for node in tree.body if isinstance(node, ast.ImportFrom)]
    return {node.module.removeprefix("pairwebs."): [alias.name for alias in node.names] for node in froms}


def defined_in(tree):
    """The names that a file defines at its module level."""
    names = [name for node in tree.body for name in bound_names(node)]
    return names + [name for node in tree.body if isinstance(node, ast.Assign) for name in bound_names(node.targets[0])]


class Form(unittest.TestCase):
    def each_node(self):
        for path in FILES:
            for node in ast.walk(ast.parse(path.read_text("ascii"))):
                yield f"{path.name}:{getattr(node, 'lineno', 0)}", node

    def test_there_are_files_and_nothing_else(self):
        self.assertIn(PACKAGE / "__init__.py", FILES)
        others = [path for path in PACKAGE.iterdir() if path not in FILES and path.name != "__pycache__"]
        self.assertEqual(others, [])

    def test_signs_words_and_sizes(self):
        for path in FILES:
            text = path.read_text("ascii")
            self.assertEqual(re.findall(r"[^\n -~]", text), [], path.name)
            self.assertIsNone(WORDS.search(text), path.name)
            lines = text.split("\n")
            self.assertLessEqual(len(lines), 400, path.name)
            self.assertLessEqual(max(len(line) for line in lines), 120, path.name)

    def test_functions_are_short_and_plain(self):
        for at, node in self.each_node():
            if isinstance(node, ast.FunctionDef):
                self.assertLessEqual(node.end_lineno - node.lineno + 1, 40, at)
                self.assertEqual(node.decorator_list, [], at)
                self.assertIsNone(node.args.vararg or node.args.kwarg, at)
                self.assertEqual(node.args.posonlyargs, [], at)

    def test_nothing_that_is_not_allowed_is_written(self):
        for at, node in self.each_node():
            self.assertNotIsInstance(node, NODES, at)
            if isinstance(node, (ast.For, ast.While)):
                self.assertEqual(node.orelse, [], at)
            if isinstance(node, ast.Constant):
                self.assertNotIsInstance(node.value, float, at)
                self.assertNotIn("%", node.value if isinstance(node.value, str) else "", at)

    def test_names(self):
        for at, node in self.each_node():
            for name in bound_names(node):
                if name != "__init__":
                    self.assertFalse(name.startswith("_"), at)
                    self.assertFalse(hasattr(builtins, name), at)
            if isinstance(node, ast.Name) and hasattr(builtins, node.id):
                self.assertIn(node.id, BUILTINS, at)

    def test_imports_are_from_the_package_by_full_names(self):
        for at, node in self.each_node():
            if isinstance(node, ast.ImportFrom):
                self.assertEqual(node.level, 0, at)
                self.assertTrue(node.module.startswith("pairwebs."), at)
                self.assertNotIn("*", [name.name for name in node.names], at)

    def test_each_import_names_the_file_that_defines_the_name(self):
        for path in FILES:
            for module, names in imports_of(ast.parse(path.read_text("ascii"))).items():
                defined = defined_in(ast.parse((PACKAGE / f"{module}.py").read_text("ascii")))
                self.assertEqual([name for name in names if name not in defined], [], path.name)

    def test_no_two_files_import_from_each_other(self):
        left = {path.stem: set(imports_of(ast.parse(path.read_text("ascii")))) for path in FILES}
        while left:
            ready = [name for name in left if not left[name] & set(left)]
            self.assertNotEqual(ready, [], left)
            left = {name: left[name] for name in left if name not in ready}

    def test_each_name_is_bound_once_and_what_is_imported_keeps_its_meaning(self):
        for path in FILES:
            tree = ast.parse(path.read_text("ascii"))
            imported = [name for names in imports_of(tree).values() for name in names]
            once = imported + defined_in(tree)
            self.assertEqual(len(once), len(set(once)), path.name)
            classes = [node.name for node in tree.body if isinstance(node, ast.ClassDef)]
            nodes = [node for outer in tree.body for node in ast.walk(outer) if node is not outer]
            inner = [name for node in nodes for name in bound_names(node)]
            self.assertEqual([name for name in inner if name in imported + classes], [], path.name)
            used = [node.id for node in ast.walk(tree) if isinstance(node, ast.Name)]
            self.assertEqual([name for name in imported if name not in used], [], path.name)


if __name__ == "__main__":
    unittest.main()

"""A few rules of ../shared/LANGUAGE.md that are easily seen from the files."""

import ast
import builtins
import re
import unittest
import warnings
from pathlib import Path

PACKAGE = Path(__file__).resolve().parent.parent / "weaklook"
FILES = sorted(PACKAGE.glob("*.py"))
BUILTINS = set(
    "len range enumerate zip min max sum abs sorted reversed int str bool bytes list tuple dict set frozenset "
    "isinstance ord repr any all divmod iter next super property staticmethod classmethod Exception ValueError "
    "TypeError KeyError IndexError LookupError ZeroDivisionError ArithmeticError OverflowError RuntimeError "
    "NotImplementedError AttributeError StopIteration NotImplemented".split()
)
METHODS = {
    f"__{name}__" for name in "init eq repr str len enter exit call iter".split()
}
BARRED_WORDS = re.compile(
    r"\b(type|typing|typing_extensions|enum|Enum|IntEnum|StrEnum|Flag|IntFlag|Generic|Protocol|ABC|ABCMeta|namedtuple"
    r"|NamedTuple|TypedDict|TYPE_CHECKING|abstractmethod)\b|dataclass|overload|contextmanager"
)
BARRED_NODES = (
    ast.Global, ast.AsyncFunctionDef, ast.AsyncFor, ast.AsyncWith, ast.Await, ast.Import, ast.Div, ast.MatMult,
)


def nodes(path):
    with warnings.catch_warnings():
        warnings.simplefilter("error")
        return list(ast.walk(ast.parse(path.read_text(encoding="utf-8"))))


class Files(unittest.TestCase):
    def test_nothing_but_plain_files(self):
        self.assertTrue(FILES)
        self.assertTrue((PACKAGE / "__init__.py").is_file())
        for path in PACKAGE.iterdir():
            if path.name != "__pycache__":
                self.assertRegex(path.name, r"^[a-z_0-9]+\.py$")

    def test_signs_and_sizes(self):
        for path in FILES:
            text = path.read_text(encoding="utf-8")
            self.assertRegex(text, r"\A[\n -~]*\Z", path.name)
            self.assertIsNone(BARRED_WORDS.search(text), path.name)
            lines = text.splitlines()
            self.assertLessEqual(len(lines), 400, path.name)
            self.assertLessEqual(max(map(len, lines)), 120, path.name)


class Code(unittest.TestCase):
    def each(self):
        for path in FILES:
            for node in nodes(path):
                yield f"{path.name}:{getattr(node, 'lineno', 0)}", node

    def test_imports_are_of_the_package(self):
        for where, node in self.each():
            if isinstance(node, ast.ImportFrom):
                self.assertEqual(node.level, 0, where)
                self.assertRegex(node.module, r"^(weaklook\.[a-z]+|__future__)$", where)
                self.assertNotIn("*", [each.name for each in node.names], where)

    def test_no_barred_statements(self):
        for where, node in self.each():
            self.assertNotIsInstance(node, BARRED_NODES, where)

    def test_functions_are_short(self):
        for where, node in self.each():
            if isinstance(node, ast.FunctionDef):
                self.assertLessEqual(node.end_lineno - node.lineno + 1, 40, where)
                self.assertFalse(node.args.posonlyargs, where)

    def test_names_are_plain(self):
        for where, node in self.each():
            for name in self.names(node):
                if name not in METHODS:
                    self.assertFalse(name.startswith("_"), f"{where} {name}")

    def names(self, node):
        if isinstance(node, ast.Name):
            return [node.id]
        if isinstance(node, ast.Attribute):
            return [node.attr]
        if isinstance(node, (ast.FunctionDef, ast.ClassDef)):
            return [node.name]
        return [node.arg] if isinstance(node, ast.arg) else []

    def test_builtins_are_allowed_and_keep_their_meaning(self):
        for where, node in self.each():
            if isinstance(node, ast.Name) and node.id in vars(builtins):
                self.assertIsInstance(node.ctx, ast.Load, f"{where} {node.id}")
                self.assertIn(node.id, BUILTINS, where)
            if isinstance(node, ast.arg):
                self.assertNotIn(node.arg, vars(builtins), where)

    def test_plain_constants(self):
        for where, node in self.each():
            if isinstance(node, ast.Constant):
                self.assertNotIsInstance(node.value, (float, complex), where)
                if isinstance(node.value, str):
                    self.assertNotIn("%", node.value, where)

    def test_is_with_none_true_false_alone(self):
        for where, node in self.each():
            if isinstance(node, ast.Compare):
                for sign, right in zip(node.ops, node.comparators):
                    if isinstance(sign, (ast.Is, ast.IsNot)):
                        self.assertIsInstance(right, ast.Constant, where)
                        self.assertIn(right.value, (None, True, False), where)


if __name__ == "__main__":
    unittest.main()

"""A few rules of ../shared/LANGUAGE.md that are easily seen from the files."""

import ast
import builtins
import itertools
import re
import unittest
import warnings
from pathlib import Path

PACKAGE = Path(__file__).resolve().parent.parent / "weaklook"
FILES = sorted(PACKAGE.glob("*.py"))
BUILTINS = set(
    "len range enumerate zip min max sum abs sorted reversed int str bool bytes list tuple dict set frozenset "
    "isinstance ord repr any all divmod iter next super property staticmethod classmethod Exception ValueError "
    "TypeError KeyError IndexError LookupError ZeroDivisionError ArithmeticError OverflowError RuntimeError "
    "NotImplementedError AttributeError StopIteration NotImplemented".split()
)
METHODS = {
    f"__{name}__" for name in "init eq repr str len enter exit call iter".split()
}
METHODS_OF_VALUES = set(
    "append clear copy count endswith extend find get index insert isalnum isalpha isdigit islower isspace isupper "
    "items join keys ljust lower lstrip partition pop remove replace reverse rfind rjust rpartition rsplit rstrip "
    "setdefault split splitlines startswith strip update upper values zfill bit_length".split()
)
BARRED_WORDS = re.compile(
    r"\b(type|typing|typing_extensions|enum|Enum|IntEnum|StrEnum|Flag|IntFlag|Generic|Protocol|ABC|ABCMeta|namedtuple"
    r"|NamedTuple|TypedDict|TYPE_CHECKING|abstractmethod)\b|dataclass|overload|contextmanager"
)
BARRED_NODES = (
    ast.Global, ast.AsyncFunctionDef, ast.AsyncFor, ast.AsyncWith, ast.Await, ast.Import, ast.Div, ast.MatMult,
)


def nodes(path):
    with warnings.catch_warnings():
        warnings.simplefilter("error")
        return list(ast.walk(ast.parse(path.read_text(encoding="utf-8"))))


class Files(unittest.TestCase):
    def test_nothing_but_plain_files(self):
        self.assertTrue(FILES)
        self.assertTrue((PACKAGE / "__init__.py").is_file())
        for path in PACKAGE.iterdir():
            if path.name != "__pycache__":
                self.assertRegex(path.name, r"^[a-z_0-9]+\.py$")

    def test_signs_and_sizes(self):
        for path in FILES:
            text = path.read_text(encoding="utf-8")
            self.assertRegex(text, r"\A[\n -~]*\Z", path.name)
            self.assertIsNone(BARRED_WORDS.search(text), path.name)
            lines = text.splitlines()
            self.assertLessEqual(len(lines), 400, path.name)
            self.assertLessEqual(max(map(len, lines)), 120, path.name)


class Code(unittest.TestCase):
    def each(self):
        for path in FILES:
            for node in nodes(path):
                yield f"{path.name}:{getattr(node, 'lineno', 0)}", node

    def test_imports_are_of_the_package(self):
        for where, node in self.each():
            if isinstance(node, ast.ImportFrom):
                self.assertEqual(node.level, 0, where)
                self.assertRegex(node.module, r"^(weaklook\.[a-z]+|__future__)$", where)
                self.assertNotIn("*", [each.name for each in node.names], where)

    def test_no_barred_statements(self):
        for where, node in self.each():
            self.assertNotIsInstance(node, BARRED_NODES, where)

    def test_functions_are_short(self):
        for where, node in self.each():
            if isinstance(node, ast.FunctionDef):
                self.assertLessEqual(node.end_lineno - node.lineno + 1, 40, where)
                self.assertFalse(node.args.posonlyargs, where)

    def test_names_are_plain(self):
        for where, node in self.each():
            for name in self.names(node):
                if name not in METHODS:
                    self.assertFalse(name.startswith("_"), f"{where} {name}")

    def names(self, node):
        if isinstance(node, ast.Name):
            return [node.id]
        if isinstance(node, ast.Attribute):
            return [node.attr]
        if isinstance(node, (ast.FunctionDef, ast.ClassDef)):
            return [node.name]
        return [node.arg] if isinstance(node, ast.arg) else []

    def test_builtins_are_allowed_and_keep_their_meaning(self):
        for where, node in self.each():
            if isinstance(node, ast.Name) and node.id in vars(builtins):
                self.assertIsInstance(node.ctx, ast.Load, f"{where} {node.id}")
                self.assertIn(node.id, BUILTINS, where)
            if isinstance(node, ast.arg):
                self.assertNotIn(node.arg, vars(builtins), where)

    def test_plain_constants(self):
        for where, node in self.each():
            if isinstance(node, ast.Constant):
                self.assertNotIsInstance(node.value, (float, complex), where)
                if isinstance(node.value, str):
                    self.assertNotIn("%", node.value, where)

    def test_is_with_none_true_false_alone(self):
        for where, node in self.each():
            if isinstance(node, ast.Compare):
                for sign, right in zip(node.ops, node.comparators):
                    if isinstance(sign, (ast.Is, ast.IsNot)):
                        self.assertIsInstance(right, ast.Constant, where)
                        self.assertIn(right.value, (None, True, False), where)

    def test_methods_are_allowed(self):
        own = {node.name for where, node in self.each() if isinstance(node, ast.FunctionDef)}
        for where, node in self.each():
            if isinstance(node, ast.Call) and isinstance(node.func, ast.Attribute):
                self.assertIn(node.func.attr, METHODS_OF_VALUES | own, where)

    def test_exponents_are_written_out(self):
        for where, node in self.each():
            if isinstance(node, ast.BinOp) and isinstance(node.op, ast.Pow):
                self.assertIsInstance(node.right, ast.Constant, where)

    def test_names_are_bound_once_and_keep_their_meaning(self):
        for path in FILES:
            module = ast.parse(path.read_text(encoding="utf-8"))
            bound = []
            for node in module.body:
                bound += [each.asname or each.name for each in getattr(node, "names", [])]
                bound += [node.name] if isinstance(node, (ast.FunctionDef, ast.ClassDef)) else []
                bound += [target.id for target in getattr(node, "targets", [])]
            self.assertEqual(len(bound), len(set(bound)), path.name)
            functions = [node for node in ast.walk(module) if isinstance(node, ast.FunctionDef)]
            for node in itertools.chain(*map(ast.walk, functions)):
                if isinstance(node, ast.Name) and isinstance(node.ctx, ast.Store):
                    self.assertNotIn(node.id, bound, f"{path.name}:{node.lineno}")
                if isinstance(node, ast.arg):
                    self.assertNotIn(node.arg, bound, f"{path.name}:{node.lineno}")

    def test_no_name_is_a_method_and_an_attribute(self):
        owned, stored, read = set(), set(), {}
        for where, node in self.each():
            if isinstance(node, ast.ClassDef):
                owned |= {each.name for each in node.body if isinstance(each, ast.FunctionDef)}
            if isinstance(node, ast.Attribute) and isinstance(node.ctx, ast.Store):
                stored.add(node.attr)
            elif isinstance(node, ast.Attribute):
                read[node.attr] = where
        self.assertEqual(owned & stored, set())
        self.assertEqual(set(read) - owned - stored - METHODS_OF_VALUES, set())

    def test_sums_and_the_like_take_lists(self):
        # A class has __eq__, so no generator expression stands in these.
        for where, node in self.each():
            if isinstance(node, ast.Call) and isinstance(node.func, ast.Name):
                if node.func.id in ("any", "all", "min", "max", "sum", "sorted"):
                    self.assertFalse([each for each in node.args if isinstance(each, ast.GeneratorExp)], where)

    def test_refusals_that_are_caught_are_own_ones(self):
        own = {node.name for where, node in self.each() if isinstance(node, ast.ClassDef)}
        for where, node in self.each():
            if isinstance(node, ast.ExceptHandler):
                caught = node.type.elts if isinstance(node.type, ast.Tuple) else [node.type]
                self.assertLessEqual({each.id for each in caught}, own, where)
            if isinstance(node, ast.Raise) and node.exc is not None:
                self.assertIsInstance(node.exc, ast.Call, where)
                self.assertIn(node.exc.func.id, own, where)

    def test_imports_name_the_file_that_defines_and_go_no_circles(self):
        needs = {}
        for path in FILES:
            module = ast.parse(path.read_text(encoding="utf-8"))
            imports = [node for node in module.body if isinstance(node, ast.ImportFrom)]
            needs[f"weaklook.{path.stem}"] = {node.module for node in imports}
            used = {node.id for node in ast.walk(module) if isinstance(node, ast.Name)}
            for node in imports:
                source = ast.parse((PACKAGE / f"{node.module.split('.')[1]}.py").read_text(encoding="utf-8"))
                defined = {each.name for each in source.body if isinstance(each, (ast.FunctionDef, ast.ClassDef))}
                defined |= {target.id for each in source.body if isinstance(each, ast.Assign) for target in each.targets}
                names = {each.name for each in node.names}
                self.assertLessEqual(names, defined & used, f"{path.name}:{node.lineno}")
        while needs:
            free = {name for name in needs if not needs[name] & set(needs)}
            self.assertTrue(free, needs)
            needs = {name: needs[name] for name in needs if name not in free}


if __name__ == "__main__":
    unittest.main()

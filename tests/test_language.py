"""The rules of LANGUAGE.md that a reader of the code can miss most easily."""

import ast
import io
import pathlib
import re
import tokenize
import unittest

PACKAGE = pathlib.Path(__file__).resolve().parent.parent / "nearfold"
FILES = sorted(PACKAGE.glob("*.py"))
BUILTINS = set(
    "len range enumerate zip min max sum abs sorted reversed int str bool bytes list tuple dict "
    "set frozenset isinstance ord repr any all divmod Exception ValueError TypeError KeyError "
    "IndexError LookupError ZeroDivisionError ArithmeticError OverflowError RuntimeError "
    "NotImplementedError AttributeError StopIteration NotImplemented super".split()
)
BARRED_WORDS = re.compile(
    r"\b(type|typing|typing_extensions|enum|Enum|IntEnum|StrEnum|Flag|IntFlag|Generic|Protocol|"
    r"ABC|ABCMeta|namedtuple|NamedTuple|TypedDict|TYPE_CHECKING|abstractmethod)\b"
    r"|dataclass|overload|contextmanager"
)
BARRED_NODES = (
    ast.Div, ast.Global, ast.AsyncFunctionDef, ast.Await, ast.Import, ast.MatMult,
)


def walked(path):
    return list(ast.walk(ast.parse(path.read_text())))


def bound_names(node):
    """All names that stand anywhere in a file, in whatever place."""
    if isinstance(node, ast.Name):
        return [node.id]
    if isinstance(node, ast.arg):
        return [node.arg]
    if isinstance(node, ast.Attribute):
        return [node.attr]
    if isinstance(node, (ast.FunctionDef, ast.ClassDef)):
        return [node.name]
    return []


def file_names(tree):
    """What a file itself defines or imports."""
    names = set()
    for node in tree.body:
        if isinstance(node, ast.ImportFrom):
            names.update(alias.asname or alias.name for alias in node.names)
        elif isinstance(node, (ast.FunctionDef, ast.ClassDef)):
            names.add(node.name)
        elif isinstance(node, ast.Assign):
            names.update(target.id for target in node.targets)
    return names


class TestFiles(unittest.TestCase):
    def test_there_are_files(self):
        self.assertIn("__init__.py", [path.name for path in FILES])

    def test_nothing_else_in_the_package(self):
        others = [
            path.name for path in PACKAGE.iterdir()
            if path.name != "__pycache__" and path not in FILES
        ]
        self.assertEqual(others, [])

    def test_characters_and_sizes(self):
        for path in FILES:
            text = path.read_bytes().decode("ascii")
            self.assertEqual(re.findall(r"[^ -~\n]", text), [], path.name)
            rows = text.split("\n")
            self.assertLessEqual(len(rows), 400, path.name)
            self.assertLessEqual(max(len(row) for row in rows), 120, path.name)

    def test_barred_words(self):
        for path in FILES:
            self.assertIsNone(BARRED_WORDS.search(path.read_text()), path.name)

    def test_strings(self):
        for path in FILES:
            for token in tokenize.generate_tokens(io.StringIO(path.read_text()).readline):
                if token.type == tokenize.STRING:
                    self.assertNotIn("%", token.string, path.name)
                    self.assertIsNone(re.search(r"\\[^nt\\\"']", token.string), path.name)


class TestCode(unittest.TestCase):
    def test_functions_are_small(self):
        for path in FILES:
            for node in walked(path):
                if isinstance(node, ast.FunctionDef):
                    rows = node.end_lineno - node.lineno + 1
                    self.assertLessEqual(rows, 40, (path.name, node.name))

    def test_imports(self):
        for path in FILES:
            tree = ast.parse(path.read_text())
            for node in ast.walk(tree):
                if isinstance(node, ast.ImportFrom):
                    self.assertIn(node, tree.body, path.name)
                    self.assertEqual(node.level, 0, path.name)
                    module, _, name = node.module.partition(".")
                    self.assertEqual(module, "nearfold", path.name)
                    source = ast.parse((PACKAGE / (name + ".py")).read_text())
                    own = file_names(source) - {
                        alias.name for inner in source.body
                        if isinstance(inner, ast.ImportFrom) for alias in inner.names
                    }
                    for alias in node.names:
                        self.assertIn(alias.name, own, path.name)

    def test_barred_nodes(self):
        for path in FILES:
            for node in walked(path):
                self.assertNotIsInstance(node, BARRED_NODES, path.name)
                if isinstance(node, ast.Constant):
                    self.assertNotIsInstance(node.value, (float, complex), path.name)

    def test_powers_have_literal_exponents(self):
        for path in FILES:
            for node in walked(path):
                if isinstance(node, ast.BinOp) and isinstance(node.op, ast.Pow):
                    self.assertIsInstance(node.right, ast.Constant, path.name)
                    self.assertIn(node.right.value, range(65), path.name)

    def test_is_stands_beside_none_and_truths(self):
        for path in FILES:
            for node in walked(path):
                if isinstance(node, ast.Compare):
                    for sign, right in zip(node.ops, node.comparators):
                        if isinstance(sign, (ast.Is, ast.IsNot)):
                            self.assertIsInstance(right, ast.Constant, path.name)
                            self.assertIn(right.value, (None, True, False), path.name)

    def test_names(self):
        for path in FILES:
            for node in walked(path):
                for name in bound_names(node):
                    if name != "__init__":
                        self.assertFalse(name.startswith("_"), (path.name, name))

    def test_no_local_name_hides_another_one(self):
        for path in FILES:
            taken = BUILTINS | file_names(ast.parse(path.read_text())) | {"hash", "id", "next", "round"}
            for node in walked(path):
                if isinstance(node, ast.arg):
                    self.assertNotIn(node.arg, taken, path.name)
                if isinstance(node, ast.FunctionDef):
                    for inner in ast.walk(node):
                        if isinstance(inner, ast.Name) and isinstance(inner.ctx, ast.Store):
                            self.assertNotIn(inner.id, taken, (path.name, node.name))

    def test_only_told_builtins_are_read(self):
        for path in FILES:
            known = BUILTINS | file_names(ast.parse(path.read_text()))
            for node in walked(path):
                if isinstance(node, ast.arg):
                    known.add(node.arg)
                if isinstance(node, ast.Name) and isinstance(node.ctx, ast.Store):
                    known.add(node.id)
            for node in walked(path):
                if isinstance(node, ast.Name):
                    self.assertIn(node.id, known, path.name)


if __name__ == "__main__":
    unittest.main()

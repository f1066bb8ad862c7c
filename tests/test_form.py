"""The form of the package's files, as far as it is told by looking at them."""

import ast
import builtins
import pathlib
import re
import unittest

FOLDER = pathlib.Path(__file__).resolve().parent.parent / "slipring"
FILES = sorted(FOLDER.glob("*.py"))
WORDS_OUT = (
    "type|typing|typing_extensions|enum|Enum|IntEnum|StrEnum|Flag|IntFlag|Generic|Protocol|ABC|"
    "ABCMeta|namedtuple|NamedTuple|TypedDict|TYPE_CHECKING|abstractmethod"
)
ROWS_OUT = (
    ast.With, ast.Match, ast.Global, ast.Nonlocal, ast.Yield, ast.YieldFrom, ast.Await,
    ast.AsyncFunctionDef, ast.AsyncFor, ast.AsyncWith, ast.NamedExpr, ast.GeneratorExp,
    ast.Div, ast.Import,
)


class FormTest(unittest.TestCase):
    def each_tree(self):
        for path in FILES:
            yield path.name, ast.parse(path.read_text(encoding="utf-8"))

    def test_nothing_but_files_of_python_lies_there(self):
        there = sorted(path for path in FOLDER.iterdir() if path.name != "__pycache__")
        self.assertEqual(there, FILES)
        self.assertIn(FOLDER / "__init__.py", FILES)

    def test_signs_and_lengths(self):
        for path in FILES:
            text = path.read_text(encoding="utf-8")
            self.assertTrue(all(sign == "\n" or " " <= sign <= "~" for sign in text), path.name)
            rows = text.split("\n")
            self.assertLessEqual(len(rows), 400, path.name)
            self.assertLessEqual(max(len(row) for row in rows), 120, path.name)

    def test_words_that_stand_nowhere(self):
        for path in FILES:
            text = path.read_text(encoding="utf-8")
            self.assertIsNone(re.search(rf"\b({WORDS_OUT})\b", text), path.name)
            self.assertIsNone(re.search("dataclass|overload|contextmanager", text), path.name)

    def test_functions_are_small_and_plain(self):
        for name, tree in self.each_tree():
            for node in ast.walk(tree):
                if isinstance(node, ast.FunctionDef):
                    self.assertLessEqual(node.end_lineno - node.lineno + 1, 40, (name, node.name))
                    self.assertEqual(node.decorator_list, [], (name, node.name))
                    self.assertIsNone(node.args.vararg, (name, node.name))
                    self.assertIsNone(node.args.kwarg, (name, node.name))

    def test_rows_that_stand_nowhere(self):
        for name, tree in self.each_tree():
            for node in ast.walk(tree):
                self.assertNotIsInstance(node, ROWS_OUT, name)

    def test_imports_are_the_packages_own(self):
        modules = {f"slipring.{path.stem}" for path in FILES}
        for name, tree in self.each_tree():
            for node in ast.walk(tree):
                if isinstance(node, ast.ImportFrom):
                    self.assertEqual(node.level, 0, name)
                    self.assertIn(node.module, modules, name)
                    self.assertNotIn("*", [alias.name for alias in node.names], name)

    def test_no_percent_sign_within_a_text(self):
        for name, tree in self.each_tree():
            for node in ast.walk(tree):
                if isinstance(node, ast.Constant) and isinstance(node.value, str):
                    self.assertNotIn("%", node.value, name)

    def test_no_name_hides_one_of_pythons_or_of_the_file(self):
        for name, tree in self.each_tree():
            hidden = set(dir(builtins))
            for node in tree.body:
                if isinstance(node, ast.ImportFrom):
                    hidden |= {alias.name for alias in node.names}
                elif isinstance(node, ast.ClassDef):
                    hidden.add(node.name)
            for node in ast.walk(tree):
                if isinstance(node, ast.arg):
                    self.assertNotIn(node.arg, hidden, name)
                elif isinstance(node, ast.Name) and isinstance(node.ctx, ast.Store):
                    self.assertNotIn(node.id, hidden, name)

    def test_no_name_is_a_method_here_and_a_value_there(self):
        methods, values = set(), set()
        for name, tree in self.each_tree():
            for node in ast.walk(tree):
                if isinstance(node, ast.ClassDef):
                    methods |= {row.name for row in node.body if isinstance(row, ast.FunctionDef)}
                elif isinstance(node, ast.Attribute) and isinstance(node.ctx, ast.Store):
                    values.add(node.attr)
        self.assertEqual(methods & values, set())
        # Values of the lane, which is told of in the interface.
        self.assertEqual(methods & {"board", "giver", "taker", "size"}, set())

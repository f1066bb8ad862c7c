"""The form of the package's files, as far as it is told by looking at them."""

import ast
import builtins
import pathlib
import re
import unittest

FOLDER = pathlib.Path(__file__).resolve().parent.parent / "slipring"
FILES = sorted(FOLDER.glob("*.py"))
WORDS_OUT = (
    "type|typing|typing_extensions|enum|Enum|IntEnum|StrEnum|Flag|IntFlag|Generic|Protocol|ABC|"
    "ABCMeta|namedtuple|NamedTuple|TypedDict|TYPE_CHECKING|abstractmethod"
)
ROWS_OUT = (
    ast.With, ast.Match, ast.Global, ast.Nonlocal, ast.Yield, ast.YieldFrom, ast.Await,
    ast.AsyncFunctionDef, ast.AsyncFor, ast.AsyncWith, ast.NamedExpr, ast.GeneratorExp,
    ast.Div, ast.Import,
)

NAMES_IN = set(
    "len range enumerate zip min max sum abs sorted reversed int str bool bytes list tuple dict set isinstance "
    "ord repr any all divmod Exception ValueError KeyError IndexError LookupError ZeroDivisionError "
    "ArithmeticError OverflowError RuntimeError NotImplementedError StopIteration".split()
)
METHODS_IN = set(
    "append clear copy count endswith extend find get index insert isalnum isalpha isdigit islower isspace isupper "
    "items join keys ljust lower lstrip partition pop remove replace reverse rfind rjust rpartition rsplit rstrip "
    "setdefault split splitlines startswith strip update upper values zfill bit_length".split()
)


class FormTest(unittest.TestCase):
    def each_tree(self):
        for path in FILES:
            yield path.name, ast.parse(path.read_text(encoding="utf-8"))

    def test_nothing_but_files_of_python_lies_there(self):
        there = sorted(path for path in FOLDER.iterdir() if path.name != "__pycache__")
        self.assertEqual(there, FILES)
        self.assertIn(FOLDER / "__init__.py", FILES)

    def test_signs_and_lengths(self):
        for path in FILES:
            text = path.read_text(encoding="utf-8")
            self.assertTrue(all(sign == "\n" or " " <= sign <= "~" for sign in text), path.name)
            rows = text.split("\n")
            self.assertLessEqual(len(rows), 400, path.name)
            self.assertLessEqual(max(len(row) for row in rows), 120, path.name)

    def test_words_that_stand_nowhere(self):
        for path in FILES:
            text = path.read_text(encoding="utf-8")
            self.assertIsNone(re.search(rf"\b({WORDS_OUT})\b", text), path.name)
            self.assertIsNone(re.search("dataclass|overload|contextmanager", text), path.name)

    def test_functions_are_small_and_plain(self):
        for name, tree in self.each_tree():
            for node in ast.walk(tree):
                if isinstance(node, ast.FunctionDef):
                    self.assertLessEqual(node.end_lineno - node.lineno + 1, 40, (name, node.name))
                    self.assertEqual(node.decorator_list, [], (name, node.name))
                    self.assertIsNone(node.args.vararg, (name, node.name))
                    self.assertIsNone(node.args.kwarg, (name, node.name))

    def test_rows_that_stand_nowhere(self):
        for name, tree in self.each_tree():
            for node in ast.walk(tree):
                self.assertNotIsInstance(node, ROWS_OUT, name)

    def test_imports_are_the_packages_own(self):
        modules = {f"slipring.{path.stem}" for path in FILES}
        for name, tree in self.each_tree():
            for node in ast.walk(tree):
                if isinstance(node, ast.ImportFrom):
                    self.assertEqual(node.level, 0, name)
                    self.assertIn(node.module, modules, name)
                    self.assertNotIn("*", [alias.name for alias in node.names], name)

    def test_no_percent_sign_within_a_text(self):
        for name, tree in self.each_tree():
            for node in ast.walk(tree):
                if isinstance(node, ast.Constant) and isinstance(node.value, str):
                    self.assertNotIn("%", node.value, name)

    def test_no_name_hides_one_of_pythons_or_of_the_file(self):
        for name, tree in self.each_tree():
            hidden = set(dir(builtins))
            for node in tree.body:
                if isinstance(node, ast.ImportFrom):
                    hidden |= {alias.name for alias in node.names}
                elif isinstance(node, ast.ClassDef):
                    hidden.add(node.name)
            for node in ast.walk(tree):
                if isinstance(node, ast.arg):
                    self.assertNotIn(node.arg, hidden, name)
                elif isinstance(node, ast.Name) and isinstance(node.ctx, ast.Store):
                    self.assertNotIn(node.id, hidden, name)

    def test_no_name_is_a_method_here_and_a_value_there(self):
        methods, values = set(), set()
        for name, tree in self.each_tree():
            for node in ast.walk(tree):
                if isinstance(node, ast.ClassDef):
                    methods |= {row.name for row in node.body if isinstance(row, ast.FunctionDef)}
                elif isinstance(node, ast.Attribute) and isinstance(node.ctx, ast.Store):
                    values.add(node.attr)
        self.assertEqual(methods & values, set())
        # Values of the lane, which is told of in the interface.
        self.assertEqual(methods & {"board", "giver", "taker", "size"}, set())

    def test_pythons_own_names_are_those_that_may_stand(self):
        for name, tree in self.each_tree():
            for node in ast.walk(tree):
                if isinstance(node, ast.Name) and isinstance(node.ctx, ast.Load) and hasattr(builtins, node.id):
                    self.assertIn(node.id, NAMES_IN, name)

    def test_methods_are_the_packages_own_or_may_stand(self):
        own = set()
        for name, tree in self.each_tree():
            for node in ast.walk(tree):
                if isinstance(node, ast.ClassDef):
                    own |= {row.name for row in node.body if isinstance(row, ast.FunctionDef)}
        for name, tree in self.each_tree():
            for node in ast.walk(tree):
                if isinstance(node, ast.Call) and isinstance(node.func, ast.Attribute):
                    self.assertIn(node.func.attr, own | METHODS_IN, name)

    def test_each_name_is_bound_once_at_a_files_top(self):
        for name, tree in self.each_tree():
            bound = []
            for node in tree.body:
                if isinstance(node, ast.ImportFrom):
                    bound += [alias.name for alias in node.names]
                elif isinstance(node, (ast.FunctionDef, ast.ClassDef)):
                    bound.append(node.name)
                elif isinstance(node, ast.Assign):
                    bound += [target.id for target in node.targets]
            self.assertEqual(len(bound), len(set(bound)), name)
            self.assertFalse([one for one in bound if one.startswith("_")], name)

    def test_what_is_walked_at_once_is_not_kept(self):
        for name, tree in self.each_tree():
            for node in ast.walk(tree):
                if isinstance(node, ast.Assign) and isinstance(node.value, ast.Call):
                    called = node.value.func
                    told = called.id if isinstance(called, ast.Name) else called.attr
                    self.assertNotIn(told, ("range", "zip", "enumerate", "reversed", "items", "keys", "values"), name)

    def test_values_are_given_through_a_local_name(self):
        for name, tree in self.each_tree():
            for node in ast.walk(tree):
                if isinstance(node, ast.Attribute) and isinstance(node.ctx, ast.Store):
                    self.assertIsInstance(node.value, ast.Name, name)

    def test_no_two_files_draw_from_one_another(self):
        draws = {}
        for name, tree in self.each_tree():
            rows = [node.module for node in ast.walk(tree) if isinstance(node, ast.ImportFrom)]
            draws["slipring." + name[:-3]] = rows
        done = []
        while len(done) < len(draws):
            free = [name for name in draws if name not in done and all(row in done for row in draws[name])]
            self.assertTrue(free, "files draw from one another")
            done += free

    def test_what_is_drawn_is_used_and_stands_in_its_file(self):
        tops = {}
        for name, tree in self.each_tree():
            tops["slipring." + name[:-3]] = {
                one for node in tree.body
                for one in (
                    [node.name] if isinstance(node, (ast.FunctionDef, ast.ClassDef))
                    else [target.id for target in node.targets] if isinstance(node, ast.Assign) else []
                )
            }
        for name, tree in self.each_tree():
            used = {node.id for node in ast.walk(tree) if isinstance(node, ast.Name)}
            for node in ast.walk(tree):
                if isinstance(node, ast.ImportFrom):
                    for alias in node.names:
                        self.assertIn(alias.name, tops[node.module], name)
                        self.assertIn(alias.name, used, name)

"""Some rules of ../shared/LANGUAGE.md, those that a short look at the files can tell; the others are not tested."""

import ast
import builtins
import re
import unittest
from pathlib import Path

PACKAGE = Path(__file__).resolve().parent.parent / "parkrow"

OWN_OF_PYTHON = set(
    "len range enumerate zip min max sum abs sorted reversed int str bool list tuple dict set frozenset isinstance "
    "ord repr any all divmod Exception ValueError TypeError KeyError IndexError LookupError ZeroDivisionError "
    "ArithmeticError OverflowError RuntimeError NotImplementedError AttributeError StopIteration".split()
)
METHODS = set(
    "append clear copy count endswith extend find get index insert isalnum isalpha isdigit islower isspace isupper "
    "items join keys ljust lower lstrip partition pop remove replace reverse rfind rjust rpartition rsplit rstrip "
    "setdefault split splitlines startswith strip update upper values zfill bit_length".split()
)
WORDS = (
    r"\b(type|typing|typing_extensions|enum|Enum|IntEnum|StrEnum|Flag|IntFlag|Generic|Protocol|ABC|ABCMeta|"
    r"namedtuple|NamedTuple|TypedDict|TYPE_CHECKING|abstractmethod)\b|dataclass|overload|contextmanager"
)
LEFT_OUT = (
    ast.With, ast.Match, ast.Delete, ast.Global, ast.Nonlocal, ast.Assert, ast.Yield, ast.YieldFrom, ast.Await,
    ast.AsyncFunctionDef, ast.AsyncFor, ast.AsyncWith, ast.SetComp, ast.DictComp, ast.GeneratorExp, ast.NamedExpr,
    ast.Starred, ast.Div, ast.MatMult, ast.Import, ast.AnnAssign,
)

KEYWORDS = {
    "sorted": {"key", "reverse"}, "min": {"key", "default"}, "max": {"key", "default"}, "sum": {"start"},
    "enumerate": {"start"}, "zip": {"strict"},
}


def files():
    return sorted(path for path in PACKAGE.rglob("*") if path.is_file() and "__pycache__" not in path.parts)


def trees():
    return [(path.name, ast.parse(path.read_text(encoding="utf-8"))) for path in files()]


def drawn_from(tree):
    return [node for node in ast.walk(tree) if isinstance(node, ast.ImportFrom)]


class Files(unittest.TestCase):
    def test_there_are_plain_files_alone(self):
        self.assertIn(PACKAGE / "__init__.py", files())
        for path in files():
            self.assertRegex(path.name, r"\A[a-z0-9_]+\.py\Z")

    def test_signs_rows_and_words(self):
        for path in files():
            text = path.read_bytes().decode("ascii")
            with self.subTest(path=path.name):
                self.assertIsNone(re.search(r"[^ -~\n]", text))
                self.assertIsNone(re.search(WORDS, text))
                self.assertLessEqual(len(text.splitlines()), 400)
                self.assertLessEqual(max(len(row) for row in text.splitlines()), 120)


class Code(unittest.TestCase):
    def test_no_clock_chance_or_file_can_be_reached(self):
        for name, tree in trees():
            for node in drawn_from(tree):
                with self.subTest(file=name, drawn=node.module):
                    self.assertEqual(node.level, 0)
                    self.assertRegex(node.module, r"\Aparkrow\.[a-z_]+\Z")

    def test_no_two_files_draw_from_one_another(self):
        left = {name[:-3]: {node.module.split(".")[1] for node in drawn_from(tree)} for name, tree in trees()}
        while left:
            ready = [name for name in left if not left[name] & set(left)]
            self.assertTrue(ready, left)
            left = {name: left[name] for name in left if name not in ready}

    def test_forms_that_are_left_out(self):
        for name, tree in trees():
            for node in ast.walk(tree):
                with self.subTest(file=name, line=getattr(node, "lineno", 0)):
                    self.assertNotIsInstance(node, LEFT_OUT)
                    self.assertFalse(isinstance(node, ast.Constant) and isinstance(node.value, (float, bytes, complex)))
                    self.assertFalse(isinstance(node, (ast.FunctionDef, ast.ClassDef)) and node.decorator_list)
                    if isinstance(node, ast.FunctionDef):
                        self.assertLessEqual(node.end_lineno - node.lineno + 1, 40)

    def test_names(self):
        for name, tree in trees():
            for node in ast.walk(tree):
                if isinstance(node, ast.Name):
                    with self.subTest(file=name, line=node.lineno, used=node.id):
                        self.assertFalse(node.id.startswith("_"))
                        if hasattr(builtins, node.id):
                            self.assertIn(node.id, OWN_OF_PYTHON)
                            self.assertIsInstance(node.ctx, ast.Load)

    def test_methods(self):
        for name, tree in trees():
            own = {node.name for node in ast.walk(tree) if isinstance(node, ast.FunctionDef)}
            for node in ast.walk(tree):
                if isinstance(node, ast.Call) and isinstance(node.func, ast.Attribute):
                    with self.subTest(file=name, line=node.lineno):
                        self.assertIn(node.func.attr, METHODS | own)

    def test_each_name_once_at_the_top_of_a_file(self):
        for name, tree in trees():
            bound = [node.name for node in tree.body if isinstance(node, (ast.FunctionDef, ast.ClassDef))]
            bound += [target.id for node in tree.body if isinstance(node, ast.Assign) for target in node.targets]
            bound += [alias.asname or alias.name for node in drawn_from(tree) for alias in node.names]
            self.assertEqual(len(bound), len(set(bound)), name)

    def test_parameters_and_locals(self):
        for name, tree in trees():
            taken = {node.name for node in tree.body if isinstance(node, (ast.FunctionDef, ast.ClassDef))}
            taken |= {alias.name for node in drawn_from(tree) for alias in node.names} | set(dir(builtins))
            for function in [node for node in ast.walk(tree) if isinstance(node, (ast.FunctionDef, ast.Lambda))]:
                names = [node for node in ast.walk(function) if isinstance(node, ast.Name)]
                own = {node.id for node in names if isinstance(node.ctx, ast.Store)}
                own |= {one.arg for one in function.args.args}
                self.assertEqual(own & taken, set(), name)
                self.assertFalse(function.args.vararg or function.args.kwarg or function.args.kwonlyargs, name)

    def test_one_target_and_is_beside_plain_values_alone(self):
        for name, tree in trees():
            for node in ast.walk(tree):
                with self.subTest(file=name, line=getattr(node, "lineno", 0)):
                    if isinstance(node, ast.Assign):
                        self.assertEqual(len(node.targets), 1)
                        self.assertNotIsInstance(node.targets[0], (ast.Tuple, ast.List))
                    if isinstance(node, ast.Compare) and any(isinstance(op, (ast.Is, ast.IsNot)) for op in node.ops):
                        self.assertIn(ast.unparse(node.comparators[0]), ("None", "True", "False"))

    def test_keywords_and_sets(self):
        for name, tree in trees():
            parents = {child: node for node in ast.walk(tree) for child in ast.iter_child_nodes(node)}
            for node in ast.walk(tree):
                if isinstance(node, ast.Call) and isinstance(node.func, ast.Name):
                    with self.subTest(file=name, line=node.lineno):
                        if hasattr(builtins, node.func.id):
                            self.assertLessEqual({one.arg for one in node.keywords}, KEYWORDS.get(node.func.id, set()))
                        if node.func.id == "set":
                            self.assertIn(ast.unparse(parents[node]).partition("(")[0], ("len", "sorted"))

    def test_texts_hold_no_percent_and_no_escape(self):
        for path in files():
            text = path.read_text(encoding="utf-8")
            self.assertNotIn("\\", text, path.name)
            for node in ast.walk(ast.parse(text)):
                if isinstance(node, ast.Constant) and isinstance(node.value, str):
                    self.assertNotIn("%", node.value, path.name)


if __name__ == "__main__":
    unittest.main()

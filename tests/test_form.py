"""Holds the package's files against the rules of the language that can be read off a file."""

import ast
import builtins
import pathlib
import re
import unittest

PACKAGE = pathlib.Path(__file__).resolve().parent.parent / "stovework"

OWN_NAMES = set(
    "len range enumerate zip min max sum abs sorted reversed int str bool list tuple dict set frozenset isinstance "
    "ord repr any all divmod Exception ValueError TypeError KeyError IndexError LookupError ZeroDivisionError "
    "ArithmeticError OverflowError RuntimeError NotImplementedError AttributeError StopIteration".split()
)

STATEMENTS = (
    ast.FunctionDef,
    ast.ClassDef,
    ast.ImportFrom,
    ast.Assign,
    ast.AugAssign,
    ast.If,
    ast.While,
    ast.For,
    ast.Return,
    ast.Break,
    ast.Continue,
    ast.Pass,
    ast.Raise,
    ast.Try,
    ast.Expr,
)

LEFT_OUT = (
    ast.Div,
    ast.MatMult,
    ast.SetComp,
    ast.DictComp,
    ast.GeneratorExp,
    ast.NamedExpr,
    ast.Starred,
    ast.Yield,
    ast.YieldFrom,
    ast.Await,
)

METHODS = set(
    "append clear copy count endswith extend find get index insert isalnum isalpha isdigit islower isspace isupper "
    "items join keys ljust lower lstrip partition pop remove replace reverse rfind rjust rpartition rsplit rstrip "
    "setdefault split splitlines startswith strip update upper values zfill bit_length".split()
)

WORDS = re.compile(
    r"\b(type|typing|typing_extensions|enum|Enum|IntEnum|StrEnum|Flag|IntFlag|Generic|Protocol|ABC|ABCMeta"
    r"|namedtuple|NamedTuple|TypedDict|TYPE_CHECKING|abstractmethod)\b|dataclass|overload|contextmanager"
)


def files():
    return sorted(path for path in PACKAGE.rglob("*") if path.is_file() and "__pycache__" not in path.parts)


def trees():
    return [(path.name, ast.parse(path.read_text())) for path in files()]


def nodes():
    return [(name, node) for name, tree in trees() for node in ast.walk(tree)]


def own_methods():
    classes = [node for name, node in nodes() if isinstance(node, ast.ClassDef)]
    return {part.name for node in classes for part in node.body if isinstance(part, ast.FunctionDef)}


def drawn_from(tree):
    return {node.module.split(".")[1] for node in ast.walk(tree) if isinstance(node, ast.ImportFrom)}


class Form(unittest.TestCase):
    def test_the_folder_holds_plain_python_files(self):
        self.assertIn(PACKAGE / "__init__.py", files())
        for path in files():
            self.assertEqual(path.parent, PACKAGE)
            self.assertRegex(path.name, r"^(__init__|[a-z][a-z0-9_]*)\.py$")

    def test_signs_words_and_sizes(self):
        for path in files():
            text = path.read_text()
            with self.subTest(file=path.name):
                self.assertRegex(text, r"\A[ -~\n]*\n\Z")
                self.assertIsNone(WORDS.search(text))
                self.assertLessEqual(len(text.splitlines()), 400)
                self.assertLessEqual(max(len(row) for row in text.splitlines()), 120)

    def test_functions_are_small(self):
        for name, node in nodes():
            if isinstance(node, ast.FunctionDef):
                self.assertLessEqual(node.end_lineno - node.lineno + 1, 40, (name, node.name))

    def test_statements_and_expressions(self):
        for name, node in nodes():
            with self.subTest(file=name, line=getattr(node, "lineno", 0)):
                if isinstance(node, ast.stmt):
                    self.assertIsInstance(node, STATEMENTS)
                self.assertNotIsInstance(node, LEFT_OUT)
                if isinstance(node, ast.Constant):
                    self.assertIn(type(node.value), (int, str, bool, type(None)))
                if isinstance(node, ast.Assign):
                    self.assertEqual(len(node.targets), 1)
                if isinstance(node, (ast.For, ast.While)):
                    self.assertEqual(node.orelse, [])

    def test_comprehensions_and_written_texts(self):
        for name, node in nodes():
            with self.subTest(file=name, line=getattr(node, "lineno", 0)):
                if isinstance(node, ast.ListComp):
                    self.assertEqual(len(node.generators), 1)
                    self.assertLessEqual(len(node.generators[0].ifs), 1)
                if isinstance(node, ast.FormattedValue):
                    self.assertIsInstance(node.value, ast.Name)
                    self.assertIsNone(node.format_spec)

    def test_keywords(self):
        allowed = {("sorted", "key"), ("sorted", "reverse"), ("min", "key"), ("min", "default"), ("max", "key")}
        allowed |= {("max", "default"), ("sum", "start"), ("enumerate", "start"), ("zip", "strict")}
        for name, node in nodes():
            if isinstance(node, ast.Call):
                for keyword in node.keywords:
                    self.assertIn((ast.unparse(node.func), keyword.arg), allowed, (name, node.lineno))

    def test_imports_are_used_and_not_given_another_meaning(self):
        for name, tree in trees():
            drawn = {alias.name for node in tree.body if isinstance(node, ast.ImportFrom) for alias in node.names}
            names = [node for node in ast.walk(tree) if isinstance(node, ast.Name)]
            with self.subTest(file=name):
                self.assertEqual(drawn - {node.id for node in names}, set())
                bound = {node.id for node in names if isinstance(node.ctx, ast.Store)}
                bound |= {node.arg for node in ast.walk(tree) if isinstance(node, ast.arg)}
                classes = {node.name for node in tree.body if isinstance(node, ast.ClassDef)}
                self.assertEqual((drawn | classes) & bound, set())

    def test_imports_are_of_the_package_alone(self):
        for name, node in nodes():
            if isinstance(node, ast.ImportFrom):
                with self.subTest(file=name, line=node.lineno):
                    self.assertEqual(node.level, 0)
                    self.assertRegex(node.module, r"^stovework\.[a-z0-9_]+$")
                    self.assertTrue((PACKAGE / (node.module.split(".")[1] + ".py")).is_file())

    def test_no_two_files_draw_from_one_another(self):
        left = {name[: -len(".py")]: drawn_from(tree) for name, tree in trees()}
        while left:
            free = [name for name in left if not left[name] & set(left)]
            self.assertNotEqual(free, [], left)
            left = {name: left[name] for name in left if name not in free}

    def test_is_stands_beside_none_true_and_false_alone(self):
        for name, node in nodes():
            if isinstance(node, ast.Compare):
                for sign, right in zip(node.ops, node.comparators):
                    if isinstance(sign, (ast.Is, ast.IsNot)):
                        self.assertIn(ast.unparse(right), ("None", "True", "False"), (name, node.lineno))

    def test_methods(self):
        allowed = METHODS | own_methods()
        for name, node in nodes():
            if isinstance(node, ast.Call) and isinstance(node.func, ast.Attribute):
                self.assertIn(node.func.attr, allowed, (name, node.lineno))

    def test_no_name_is_a_method_and_a_value(self):
        values = {
            node.attr for name, node in nodes() if isinstance(node, ast.Attribute) and isinstance(node.ctx, ast.Store)
        }
        self.assertEqual(values & own_methods(), set())

    def test_names(self):
        python_names = set(dir(builtins)) - OWN_NAMES
        for name, node in nodes():
            if isinstance(node, ast.Name):
                with self.subTest(file=name, line=node.lineno):
                    self.assertNotIn(node.id, python_names)
                    self.assertFalse(node.id.startswith("_"))
                    if isinstance(node.ctx, ast.Store):
                        self.assertNotIn(node.id, dir(builtins))
            if isinstance(node, ast.arg):
                self.assertNotIn(node.arg, dir(builtins), (name, node.lineno))


if __name__ == "__main__":
    unittest.main()

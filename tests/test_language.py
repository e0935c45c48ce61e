"""The package keeps to the small part of Python that it is written in.

Only what a look at the files can tell for sure is checked here: sizes, signs, words, imports, and forms.
"""

import ast
import builtins
import pathlib
import re
import unittest

PACKAGE = pathlib.Path(__file__).resolve().parent.parent / "mendsure"

OWN_NAMES = """len range enumerate zip min max sum abs sorted reversed int str bool list tuple dict set frozenset
isinstance ord repr any all divmod Exception ValueError TypeError KeyError IndexError LookupError ZeroDivisionError
ArithmeticError OverflowError RuntimeError NotImplementedError AttributeError StopIteration""".split()

OWN_METHODS = """append clear copy count endswith extend find get index insert isalnum isalpha isdigit islower isspace
isupper items join keys ljust lower lstrip partition pop remove replace reverse rfind rjust rpartition rsplit rstrip
setdefault split splitlines startswith strip update upper values zfill bit_length""".split()

FORMS = (
    ast.Module, ast.ImportFrom, ast.alias, ast.FunctionDef, ast.arguments, ast.arg, ast.ClassDef, ast.Assign,
    ast.AugAssign, ast.If, ast.While, ast.For, ast.Return, ast.Break, ast.Continue, ast.Pass, ast.Raise, ast.Try,
    ast.ExceptHandler, ast.Expr, ast.Constant, ast.List, ast.Tuple, ast.Dict, ast.Set, ast.BinOp, ast.UnaryOp,
    ast.BoolOp, ast.Compare, ast.IfExp, ast.Call, ast.keyword, ast.Attribute, ast.Subscript, ast.Slice, ast.ListComp,
    ast.comprehension, ast.JoinedStr, ast.FormattedValue, ast.Name, ast.Lambda, ast.expr_context, ast.operator,
    ast.unaryop, ast.boolop, ast.cmpop,
)

BANNED = """type typing typing_extensions enum Enum IntEnum StrEnum Flag IntFlag Generic Protocol ABC ABCMeta namedtuple
NamedTuple TypedDict TYPE_CHECKING abstractmethod""".split()
BANNED_WITHIN = ("dataclass", "overload", "contextmanager")
DOUBLE = ("__init__", "__eq__", "__repr__", "__str__", "__len__")


def files():
    return sorted(PACKAGE.rglob("*.py"))


def nodes():
    for path in files():
        for node in ast.walk(ast.parse(path.read_text())):
            yield f"{path.name}:{getattr(node, 'lineno', 0)}", node


def bound_at_top(tree):
    """The classes and imports of a file."""
    names = [node.name for node in tree.body if isinstance(node, ast.ClassDef)]
    for node in tree.body:
        if isinstance(node, ast.ImportFrom):
            names.extend([alias.asname or alias.name for alias in node.names])
    return names


def draws_from(path):
    for node in ast.walk(ast.parse(path.read_text())):
        if isinstance(node, ast.ImportFrom):
            yield node.module.rpartition(".")[2]


class TestFiles(unittest.TestCase):
    def test_nothing_but_python_files(self):
        for path in PACKAGE.rglob("*"):
            if "__pycache__" not in path.parts:
                self.assertTrue(path.is_dir() or re.fullmatch(r"[a-z0-9_]+\.py", path.name), path)

    def test_sizes(self):
        for path in files():
            lines = path.read_text().split("\n")
            self.assertLessEqual(len(lines), 401, path)
            for number, line in enumerate(lines, start=1):
                self.assertLessEqual(len(line), 120, f"{path}:{number}")
        for where, node in nodes():
            if isinstance(node, ast.FunctionDef):
                self.assertLessEqual(node.end_lineno - node.lineno + 1, 40, where)

    def test_signs(self):
        for path in files():
            self.assertTrue(all(sign == "\n" or " " <= sign <= "~" for sign in path.read_text()), path)

    def test_words(self):
        for path in files():
            words = re.findall(r"\w+", path.read_text())
            for word in words:
                self.assertNotIn(word, BANNED, path)
                self.assertFalse(any(part in word for part in BANNED_WITHIN), f"{path}: {word}")

    def test_no_two_files_draw_from_one_another(self):
        left = {path.stem: set(draws_from(path)) for path in files()}
        while left:
            free = [name for name in left if not left[name] & set(left)]
            self.assertTrue(free, f"a ring of imports among {sorted(left)}")
            for name in free:
                left.pop(name)


class TestForms(unittest.TestCase):
    def test_forms(self):
        for where, node in nodes():
            self.assertIsInstance(node, FORMS, where)

    def test_imports(self):
        for where, node in nodes():
            if isinstance(node, ast.ImportFrom):
                self.assertEqual(node.level, 0, where)
                self.assertTrue(node.module.startswith("mendsure."), where)
                self.assertNotIn("*", [alias.name for alias in node.names], where)

    def test_functions_and_classes(self):
        for where, node in nodes():
            if isinstance(node, (ast.FunctionDef, ast.ClassDef)):
                self.assertEqual(node.decorator_list, [], where)
            if isinstance(node, ast.ClassDef):
                self.assertLessEqual(len(node.bases), 1, where)
            if isinstance(node, ast.arguments):
                self.assertEqual((node.vararg, node.kwarg, node.kwonlyargs, node.posonlyargs), (None, None, [], []))

    def test_statements(self):
        for where, node in nodes():
            if isinstance(node, (ast.For, ast.While)):
                self.assertEqual(node.orelse, [], where)
            if isinstance(node, ast.Assign):
                self.assertEqual(len(node.targets), 1, where)
            if isinstance(node, ast.ListComp):
                self.assertEqual(len(node.generators), 1, where)
            if isinstance(node, ast.comprehension):
                self.assertLessEqual(len(node.ifs), 1, where)
            if isinstance(node, ast.Try):
                self.assertEqual(node.finalbody, [], where)

    def test_values(self):
        for where, node in nodes():
            if isinstance(node, ast.Constant):
                self.assertIn(type(node.value), (int, str, bool, type(None)), where)
            self.assertNotIsInstance(node, (ast.Div, ast.MatMult), where)
            if isinstance(node, ast.BinOp) and isinstance(node.op, ast.Pow):
                self.assertTrue(isinstance(node.right, ast.Constant) and 0 <= node.right.value <= 64, where)

    def test_texts_with_names_in_them(self):
        for where, node in nodes():
            if isinstance(node, ast.FormattedValue):
                self.assertIsInstance(node.value, ast.Name, where)
                self.assertIsNone(node.format_spec, where)
                self.assertIn(node.conversion, (-1, ord("r")), where)
            if isinstance(node, ast.Constant) and isinstance(node.value, str):
                self.assertNotIn("%", node.value, where)

    def test_walked_at_once(self):
        for where, node in nodes():
            kept = node.value if isinstance(node, (ast.Assign, ast.Return)) else None
            if isinstance(kept, ast.Call):
                maker = kept.func.attr if isinstance(kept.func, ast.Attribute) else kept.func.id
                self.assertNotIn(maker, ("zip", "enumerate", "reversed", "range", "items", "keys", "values"), where)

    def test_names(self):
        for where, node in nodes():
            if isinstance(node, ast.Name):
                self.assertFalse(node.id.startswith("_"), where)
                allowed = node.id in OWN_NAMES and isinstance(node.ctx, ast.Load)
                self.assertTrue(allowed or node.id not in dir(builtins), f"{where} {node.id}")
            if isinstance(node, ast.arg):
                self.assertNotIn(node.arg, dir(builtins), where)
            if isinstance(node, (ast.FunctionDef, ast.ClassDef)):
                self.assertTrue(node.name in DOUBLE or not node.name.startswith("_"), where)

    def test_no_local_is_called_like_a_class_or_an_import(self):
        for path in files():
            tree = ast.parse(path.read_text())
            for node in ast.walk(tree):
                if isinstance(node, ast.arg):
                    self.assertNotIn(node.arg, bound_at_top(tree), f"{path.name}:{node.lineno}")
                if isinstance(node, ast.Name) and isinstance(node.ctx, ast.Store):
                    self.assertNotIn(node.id, bound_at_top(tree), f"{path.name}:{node.lineno}")

    def test_is_stands_beside_none_and_truths(self):
        for where, node in nodes():
            if isinstance(node, ast.Compare) and isinstance(node.ops[0], (ast.Is, ast.IsNot)):
                right = node.comparators[0]
                self.assertTrue(isinstance(right, ast.Constant) and right.value in (None, True, False), where)

    def test_no_set_is_kept_or_walked(self):
        for where, node in nodes():
            kept = node.value if isinstance(node, (ast.Assign, ast.Return)) else None
            kept = node.iter if isinstance(node, (ast.For, ast.comprehension)) else kept
            maker = kept.func if isinstance(kept, ast.Call) else None
            made = isinstance(maker, ast.Name) and maker.id in ("set", "frozenset")
            self.assertFalse(made or isinstance(kept, ast.Set), where)

    def test_no_name_is_a_method_and_a_value(self):
        methods = [part.name for where, node in nodes() if isinstance(node, ast.ClassDef) for part in node.body
                   if isinstance(part, ast.FunctionDef)]
        for where, node in nodes():
            if isinstance(node, ast.Attribute) and isinstance(node.ctx, ast.Store):
                self.assertNotIn(node.attr, methods, where)

    def test_methods(self):
        own = [node.name for where, node in nodes() if isinstance(node, ast.FunctionDef)]
        for where, node in nodes():
            if isinstance(node, ast.Call) and isinstance(node.func, ast.Attribute):
                self.assertIn(node.func.attr, OWN_METHODS + own, where)


if __name__ == "__main__":
    unittest.main()

"""The rules of LANGUAGE.md that a short script can see, held against the package's files."""

import ast
import builtins
import pathlib
import re
import unittest

PACKAGE = pathlib.Path(__file__).resolve().parent.parent / "bankwalk"

OWN_NAMES = """len range enumerate zip min max sum abs sorted reversed int str bool bytes list tuple dict set frozenset
isinstance ord repr any all divmod Exception ValueError TypeError KeyError IndexError LookupError ZeroDivisionError
ArithmeticError OverflowError RuntimeError NotImplementedError AttributeError StopIteration""".split()

UNUSED_NAMES = """register mro elements open input version_info with_traceback add_note attrgetter breakpoint builtins
compile copyright credits delattr dir eval exec exit gc getattr globals hasattr help id importlib license locals
methodcaller os quit setattr super type vars sys""".split()

UNUSED_WORDS = """type typing typing_extensions enum Enum IntEnum StrEnum Flag IntFlag Generic Protocol ABC ABCMeta
namedtuple NamedTuple TypedDict TYPE_CHECKING abstractmethod""".split()

METHODS = """append clear copy count endswith extend find get index insert isalnum isalpha isdigit islower isspace
isupper items join keys ljust lower lstrip partition pop remove replace reverse rfind rjust rpartition rsplit rstrip
setdefault split splitlines startswith strip update upper values zfill bit_length add discard sort""".split()

OUT = (
    ast.With, ast.Match, ast.Global, ast.Nonlocal, ast.Yield, ast.YieldFrom, ast.Await, ast.AsyncFor, ast.AsyncWith,
    ast.AsyncFunctionDef, ast.GeneratorExp, ast.NamedExpr, ast.Div, ast.MatMult, ast.Import, ast.TryStar,
)  # fmt: skip

TOP = (ast.ImportFrom, ast.FunctionDef, ast.ClassDef, ast.Assign)


def files():
    return sorted(PACKAGE.glob("*.py"))


def trees():
    return {path.stem: ast.parse(path.read_text(encoding="utf-8")) for path in files()}


def nodes(*kinds):
    """All nodes of these kinds with where they stand."""
    for name, tree in trees().items():
        for node in ast.walk(tree):
            if isinstance(node, kinds):
                yield f"{name}.py:{getattr(node, 'lineno', 0)}", node


def top_names(tree):
    """The names that are bound at a file's top, each as often as it is."""
    names = []
    for row in tree.body:
        if isinstance(row, (ast.FunctionDef, ast.ClassDef)):
            names.append(row.name)
        elif isinstance(row, ast.ImportFrom):
            names += [alias.asname or alias.name for alias in row.names]
        elif isinstance(row, ast.Assign):
            names += [node.id for node in ast.walk(row) if isinstance(getattr(node, "ctx", None), ast.Store)]
    return names


def is_plain(value):
    """Whether a value stands beside `is` rightly."""
    return isinstance(value, ast.Constant) and (value.value is None or isinstance(value.value, bool))


class FileTests(unittest.TestCase):
    def test_nothing_else_lies_in_the_package(self):
        lying = [path.name for path in PACKAGE.iterdir() if path.name != "__pycache__"]
        self.assertIn("__init__.py", lying)
        for name in lying:
            self.assertRegex(name, r"^(__init__|[a-z][a-z0-9_]*)\.py$")
            self.assertNotRegex(name, r"^(test|tests|testing|site|conftest|law_.*|test_.*)\.py$")
            self.assertNotIn(name[:-3], dir(builtins) + UNUSED_WORDS)

    def test_rows_and_signs(self):
        for path in files():
            text = path.read_bytes()
            self.assertTrue(all(sign == 10 or 32 <= sign <= 126 for sign in text), path.name)
            rows = text.decode().split("\n")
            self.assertLessEqual(len(rows), 400, path.name)
            self.assertLessEqual(max(map(len, rows)), 120, path.name)

    def test_words_that_stand_nowhere(self):
        for path in files():
            text = path.read_text()
            for word in UNUSED_WORDS:
                self.assertNotRegex(text, rf"\b{word}\b", path.name)
            for word in ("dataclass", "overload", "contextmanager"):
                self.assertNotIn(word, text, path.name)


class FormTests(unittest.TestCase):
    def test_forms_that_are_out(self):
        for where, node in nodes(*OUT):
            self.fail(f"{where}: {type(node).__name__}")

    def test_the_top_of_a_file(self):
        for name, tree in trees().items():
            self.assertTrue(ast.get_docstring(tree), name)
            self.assertTrue(all(isinstance(row, TOP) for row in tree.body[1:]), name)
            self.assertEqual(len(top_names(tree)), len(set(top_names(tree))), name)

    def test_defs_are_short_and_plain(self):
        for where, node in nodes(ast.FunctionDef):
            given = node.args
            self.assertLessEqual(node.end_lineno - node.lineno + 1, 40, where)
            self.assertFalse(given.vararg or given.kwarg or given.posonlyargs or node.decorator_list, where)
            if re.match("__", node.name):
                self.assertIn(node.name, ("__init__", "__eq__", "__repr__", "__str__", "__len__"), where)

    def test_classes_hold_defs_alone(self):
        for where, node in nodes(ast.ClassDef):
            self.assertLessEqual(len(node.bases), 1, where)
            self.assertFalse(node.decorator_list or node.keywords, where)
            for row in node.body:
                words = isinstance(row, ast.Expr) and isinstance(row.value, ast.Constant)
                self.assertTrue(words or isinstance(row, ast.FunctionDef), where)

    def test_numbers_and_texts(self):
        for where, node in nodes(ast.Constant):
            self.assertNotIsInstance(node.value, (float, complex), where)
            if isinstance(node.value, str):
                self.assertNotIn("%", node.value, where)
        for where, node in nodes(ast.BinOp, ast.AugAssign):
            if isinstance(node.op, ast.Pow):
                self.assertIsInstance(getattr(node, "right", None), ast.Constant, where)

    def test_is_stands_beside_none_true_and_false(self):
        for where, node in nodes(ast.Compare):
            for sign, beside in zip(node.ops, node.comparators):
                if isinstance(sign, (ast.Is, ast.IsNot)):
                    self.assertTrue(is_plain(beside), where)

    def test_zip_and_its_kin_are_walked_on_the_spot(self):
        for where, node in nodes(ast.Assign, ast.AugAssign, ast.Return, ast.Tuple, ast.List):
            for value in getattr(node, "elts", None) or [getattr(node, "value", None)]:
                deed = getattr(value, "func", None)
                called = getattr(deed, "id", None) or getattr(deed, "attr", None)
                self.assertNotIn(called, ("zip", "enumerate", "reversed", "range", "items", "keys", "values"), where)

    def test_loops_have_no_else(self):
        for where, node in nodes(ast.For, ast.While):
            self.assertEqual(node.orelse, [], where)


class NameTests(unittest.TestCase):
    def test_names_are_plain(self):
        for where, name in self.names_given():
            self.assertRegex(name, r"^[A-Za-z][A-Za-z0-9_]*$", where)
            self.assertNotIn(name, dir(builtins) + UNUSED_NAMES, where)

    def names_given(self):
        for where, node in nodes(ast.Name, ast.arg, ast.FunctionDef, ast.ClassDef):
            if isinstance(node, ast.arg):
                yield where, node.arg
            elif isinstance(node, ast.Name) and not isinstance(node.ctx, ast.Load):
                yield where, node.id
            elif isinstance(node, (ast.FunctionDef, ast.ClassDef)) and not re.match("__", node.name):
                yield where, node.name

    def test_python_s_own_names(self):
        for where, node in nodes(ast.Name):
            if hasattr(builtins, node.id):
                self.assertIn(node.id, OWN_NAMES, where)

    def test_locals_are_not_called_like_a_top_s_name(self):
        for name, tree in trees().items():
            top = top_names(tree)
            for deed in [node for node in ast.walk(tree) if isinstance(node, ast.FunctionDef)]:
                for node in ast.walk(deed):
                    called = node.arg if isinstance(node, ast.arg) else getattr(node, "id", None)
                    if isinstance(node, ast.arg) or isinstance(getattr(node, "ctx", None), ast.Store):
                        self.assertNotIn(called, top, f"{name}.py:{node.lineno}")

    def test_methods_and_values(self):
        fields = {node.attr for _, node in nodes(ast.Attribute) if isinstance(node.ctx, ast.Store)}
        for where, node in nodes(ast.Attribute):
            self.assertIn(node.attr, set(METHODS) | fields | {"__init__"}, where)


class ImportTests(unittest.TestCase):
    def drawn(self, tree):
        return [row for row in ast.walk(tree) if isinstance(row, ast.ImportFrom)]

    def test_from_the_very_file_that_defines_it(self):
        known = trees()
        for name, tree in known.items():
            for row in self.drawn(tree):
                self.assertEqual(row.level, 0, name)
                self.assertRegex(row.module, r"^bankwalk\.[a-z_]+$", name)
                source = known[row.module.split(".")[1]]
                defined = [at.name for at in source.body if isinstance(at, (ast.FunctionDef, ast.ClassDef))]
                for alias in row.names:
                    self.assertIn(alias.name, defined, name)

    def test_what_is_drawn_is_used(self):
        for name, tree in trees().items():
            used = {node.id for node in ast.walk(tree) if isinstance(node, ast.Name)}
            for row in self.drawn(tree):
                for alias in row.names:
                    self.assertIn(alias.asname or alias.name, used, name)

    def test_no_two_files_draw_from_one_another(self):
        left = {name: {row.module.split(".")[1] for row in self.drawn(tree)} for name, tree in trees().items()}
        while left:
            free = [name for name, drawn in left.items() if not drawn & set(left)]
            self.assertTrue(free, f"these draw from one another: {sorted(left)}")
            for name in free:
                del left[name]


if __name__ == "__main__":
    unittest.main()

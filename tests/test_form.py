"""The form of the package's files: those rules of the language that can be seen file by file."""

import ast
import pathlib
import re
import unittest

PACKAGE = pathlib.Path(__file__).resolve().parent.parent / "worktwin"
FILES = sorted(PACKAGE.glob("*.py"))

BUILTINS = set(
    "len range enumerate zip min max sum abs sorted reversed int str bool bytes list tuple dict set isinstance ord repr"
    " any all divmod iter next Exception ValueError TypeError KeyError IndexError LookupError ZeroDivisionError"
    " ArithmeticError OverflowError RuntimeError NotImplementedError".split()
)
BARRED_WORDS = re.compile(
    r"\b(type|typing|typing_extensions|enum|Enum|IntEnum|StrEnum|Flag|IntFlag|Generic|Protocol|ABC|ABCMeta|namedtuple"
    r"|NamedTuple|TypedDict|TYPE_CHECKING|abstractmethod)\b|dataclass|overload|contextmanager"
)
METHODS = set(
    "append clear copy count endswith extend find get index insert isalnum isalpha isdigit islower isspace isupper items"
    " join keys ljust lower lstrip partition pop remove replace reverse rfind rjust rpartition rsplit rstrip setdefault"
    " split splitlines startswith strip update upper values zfill bit_length".split()
)
BARRED_NODES = (
    ast.Global, ast.AsyncFunctionDef, ast.AsyncFor, ast.AsyncWith, ast.Await, ast.Div, ast.MatMult, ast.Import,
)


DOUBLE = ("__init__", "__eq__", "__len__")


def trees():
    for file in FILES:
        yield file.name, ast.parse(file.read_text(encoding="utf-8"))


def bound_names(tree):
    for node in ast.walk(tree):
        if isinstance(node, (ast.FunctionDef, ast.ClassDef)):
            yield node.name
        elif isinstance(node, ast.Name) and isinstance(node.ctx, ast.Store):
            yield node.id
        elif isinstance(node, ast.arg):
            yield node.arg
        elif isinstance(node, ast.alias):
            yield node.asname or node.name


def own_methods():
    """The names of all methods of the package's classes."""
    for _, tree in trees():
        for node in ast.walk(tree):
            if isinstance(node, ast.ClassDef):
                yield from [one.name for one in node.body if isinstance(one, ast.FunctionDef)]


def is_simple(node):
    """Whether this may stand in a finally as a value."""
    if isinstance(node, (ast.List, ast.Tuple)):
        return all(is_simple(one) for one in node.elts)
    if isinstance(node, ast.BinOp) and isinstance(node.op, ast.Add):
        return is_simple(node.left) and is_simple(node.right)
    return isinstance(node, (ast.Name, ast.Constant, ast.Attribute))


def may_end(node):
    """Whether this row may stand in a finally."""
    if isinstance(node, ast.Assign):
        return is_simple(node.value)
    if isinstance(node, ast.AugAssign):
        return isinstance(node.value, ast.Constant)
    call = node.value if isinstance(node, ast.Expr) else None
    return isinstance(call, ast.Call) and call.func.attr in ("append", "clear") and all(is_simple(one) for one in call.args)


class FormTest(unittest.TestCase):
    def test_the_folder_has_python_files_alone(self):
        found = [one.name for one in PACKAGE.iterdir() if one.name != "__pycache__"]
        self.assertEqual(sorted(found), [file.name for file in FILES])
        self.assertIn("__init__.py", found)
        for name in found:
            self.assertRegex(name, r"\A[a-z0-9_]+\.py\Z")

    def test_size_and_characters(self):
        for file in FILES:
            text = file.read_text(encoding="utf-8")
            self.assertRegex(text, r"\A[ -~\n]*\Z", file.name)
            rows = text.split("\n")
            self.assertLessEqual(len(rows), 399, file.name)
            self.assertLessEqual(max(len(row) for row in rows), 120, file.name)

    def test_functions_are_short(self):
        for name, tree in trees():
            for node in ast.walk(tree):
                if isinstance(node, ast.FunctionDef):
                    self.assertLessEqual(node.end_lineno - node.lineno + 1, 40, (name, node.name))
                    self.assertEqual(node.decorator_list, [], (name, node.name))

    def test_barred_words(self):
        for file in FILES:
            self.assertIsNone(BARRED_WORDS.search(file.read_text(encoding="utf-8")), file.name)

    def test_statements(self):
        for name, tree in trees():
            for node in ast.walk(tree):
                self.assertNotIsInstance(node, BARRED_NODES, name)
                if isinstance(node, ast.Constant):
                    self.assertNotIsInstance(node.value, (float, complex), name)
                    if isinstance(node.value, str):
                        self.assertNotIn("%", node.value, name)

    def test_methods(self):
        own = set(own_methods())
        for name, tree in trees():
            for node in ast.walk(tree):
                if isinstance(node, ast.Call) and isinstance(node.func, ast.Attribute):
                    self.assertIn(node.func.attr, METHODS | own, name)
                    if node.func.attr in METHODS:
                        self.assertEqual(node.keywords, [], name)

    def test_no_name_is_a_method_and_an_attribute(self):
        own = set(own_methods())
        for name, tree in trees():
            for node in ast.walk(tree):
                if isinstance(node, ast.Attribute) and isinstance(node.ctx, ast.Store):
                    self.assertNotIn(node.attr, own | METHODS, name)

    def test_classes(self):
        for name, tree in trees():
            for node in ast.walk(tree):
                if isinstance(node, ast.ClassDef):
                    self.assertIn(node, tree.body, name)
                    self.assertEqual((node.decorator_list, node.keywords), ([], []), name)
                    for one in [one for one in node.body if isinstance(one, ast.FunctionDef)]:
                        self.assertRegex(one.name, r"\A[a-z][a-z0-9_]*\Z|\A(" + "|".join(DOUBLE) + r")\Z", name)
                        self.assertEqual(one.args.args[0].arg, "self", name)

    def test_no_star_in_an_index(self):
        for name, tree in trees():
            for node in ast.walk(tree):
                if isinstance(node, ast.Subscript):
                    self.assertFalse(any(isinstance(one, ast.Starred) for one in ast.walk(node.slice)), name)

    def test_finally(self):
        for name, tree in trees():
            for node in ast.walk(tree):
                if isinstance(node, ast.Try):
                    self.assertTrue(all(may_end(one) for one in node.finalbody), name)
                    for handler in node.handlers:
                        self.assertRegex(handler.type.id, r"\A(Bad|No|Too)[A-Z]", name)

    def test_generators(self):
        # There are classes that compare, and beside these any, all and their like take lists.
        for name, tree in trees():
            for node in ast.walk(tree):
                self.assertNotIsInstance(node, (ast.GeneratorExp, ast.Yield, ast.YieldFrom), name)

    def test_module_level(self):
        kinds = (ast.FunctionDef, ast.ClassDef, ast.ImportFrom, ast.Assign)
        for name, tree in trees():
            self.assertIsNotNone(ast.get_docstring(tree), name)
            for node in tree.body[1:]:
                self.assertIsInstance(node, kinds, name)

    def test_imports(self):
        for name, tree in trees():
            for node in ast.walk(tree):
                if isinstance(node, ast.ImportFrom):
                    self.assertEqual(node.level, 0, name)
                    self.assertRegex(node.module, r"\Aworktwin\.\w+\Z", name)
                    defined = (PACKAGE / f"{node.module.split('.')[1]}.py").read_text(encoding="utf-8")
                    for one in node.names:
                        self.assertIsNone(one.asname, name)
                        self.assertRegex(defined, rf"(?m)^(def|class) {one.name}[(:]|^{one.name} = ", name)

    def test_names(self):
        known = set(dir(__builtins__)) if not isinstance(__builtins__, dict) else set(__builtins__)
        for name, tree in trees():
            for bound in bound_names(tree):
                self.assertRegex(bound, r"\A[A-Za-z][A-Za-z0-9_]*\Z|\A(" + "|".join(DOUBLE) + r")\Z", name)
                self.assertNotIn(bound, known, name)

    def test_imports_are_not_bound_again(self):
        for name, tree in trees():
            taken = [one.name for node in tree.body if isinstance(node, ast.ImportFrom) for one in node.names]
            bound = list(bound_names(tree))
            for one in taken:
                self.assertEqual(bound.count(one), 1, (name, one))

    def test_builtins(self):
        known = set(dir(__builtins__)) if not isinstance(__builtins__, dict) else set(__builtins__)
        for name, tree in trees():
            for node in ast.walk(tree):
                if isinstance(node, ast.Name) and node.id in known:
                    self.assertIn(node.id, BUILTINS, name)


if __name__ == "__main__":
    unittest.main()

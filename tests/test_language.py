"""The package keeps to the small part of Python it is written in.

What can be told from the text alone is checked here; the behaviour is checked elsewhere.
"""

import ast
import builtins
import pathlib
import re
import unittest

PACKAGE = pathlib.Path(__file__).resolve().parent.parent / "kinghall"

NODES = """
    Module Expr ImportFrom alias FunctionDef Lambda arguments arg ClassDef Assign AugAssign If While For Return Break
    Continue Pass Raise Try ExceptHandler Name Attribute Subscript Slice Constant List Tuple Dict Set Call keyword
    BinOp UnaryOp BoolOp Compare IfExp ListComp comprehension JoinedStr FormattedValue Load Store
    Add Sub Mult FloorDiv Mod Pow LShift RShift BitOr BitXor BitAnd Invert Not UAdd USub And Or
    Eq NotEq Lt LtE Gt GtE Is IsNot In NotIn
""".split()

OWN_NAMES = """
    len range enumerate zip min max sum abs sorted reversed int str bool list tuple dict set frozenset isinstance ord
    repr any all divmod Exception ValueError TypeError KeyError IndexError LookupError ZeroDivisionError
    ArithmeticError OverflowError RuntimeError NotImplementedError AttributeError StopIteration
""".split()

METHODS = """
    append clear copy count endswith extend find get index insert isalnum isalpha isdigit islower isspace isupper items
    join keys ljust lower lstrip partition pop remove replace reverse rfind rjust rpartition rsplit rstrip setdefault
    split splitlines startswith strip update upper values zfill bit_length
""".split()

UNUSED_WORDS = """
    type typing typing_extensions enum Enum IntEnum StrEnum Flag IntFlag Generic Protocol ABC ABCMeta namedtuple
    NamedTuple TypedDict TYPE_CHECKING abstractmethod
""".split()

UNUSED_PARTS = ("dataclass", "overload", "contextmanager")


def files():
    return sorted(path for path in PACKAGE.rglob("*") if path.is_file() and "__pycache__" not in path.parts)


def nodes():
    return [(path.name, node) for path in files() for node in ast.walk(ast.parse(path.read_text()))]


def drawn_from():
    """For each module the modules that it imports from."""
    drawn = {path.stem: set() for path in files()}
    for name, node in nodes():
        if isinstance(node, ast.ImportFrom):
            drawn[name[:-len(".py")]].add(node.module.rpartition(".")[2])
    return drawn


def names_at_top(module):
    names = []
    for node in ast.parse((PACKAGE / f"{module}.py").read_text()).body:
        names.extend(bound_names(node))
        if isinstance(node, ast.Assign):
            names.append(node.targets[0].id)
    return names


def bound_names(node):
    if isinstance(node, ast.Name) and isinstance(node.ctx, ast.Store):
        return [node.id]
    if isinstance(node, ast.arg):
        return [node.arg]
    if isinstance(node, (ast.FunctionDef, ast.ClassDef)):
        return [node.name]
    return []


class TestText(unittest.TestCase):
    def test_files_have_plain_names(self):
        self.assertIn("__init__.py", [path.name for path in files()])
        for path in files():
            self.assertRegex(path.name, r"^(__init__|[a-z][a-z0-9_]*)\.py$")

    def test_signs_and_sizes(self):
        for path in files():
            text = path.read_bytes().decode("ascii")
            self.assertRegex(text, r"\A[ -~\n]*\Z", path.name)
            self.assertLessEqual(len(text.split("\n")), 400, path.name)
            self.assertLessEqual(max(len(line) for line in text.split("\n")), 120, path.name)

    def test_words_that_are_not_used(self):
        for path in files():
            text = path.read_text()
            self.assertEqual([word for word in re.findall(r"\w+", text) if word in UNUSED_WORDS], [], path.name)
            self.assertEqual([part for part in UNUSED_PARTS if part in text], [], path.name)


class TestForms(unittest.TestCase):
    def test_only_these_forms(self):
        for name, node in nodes():
            self.assertIn(type(node).__name__, NODES, (name, getattr(node, "lineno", 0)))

    def test_values(self):
        for name, node in nodes():
            if isinstance(node, ast.Constant):
                self.assertIn(type(node.value), (int, str, bool, type(None)), (name, node.lineno))
            if isinstance(node, ast.Assign):
                self.assertEqual(len(node.targets), 1, (name, node.lineno))

    def test_functions_are_plain_and_short(self):
        for name, node in nodes():
            if isinstance(node, ast.FunctionDef):
                arguments = node.args
                self.assertEqual((arguments.vararg, arguments.kwarg), (None, None), node.name)
                self.assertEqual((arguments.posonlyargs, arguments.kwonlyargs), ([], []), node.name)
                self.assertEqual(node.decorator_list, [], node.name)
                self.assertLessEqual(node.end_lineno - node.lineno + 1, 40, node.name)

    def test_loops_have_no_else_and_try_no_finally(self):
        for name, node in nodes():
            if isinstance(node, (ast.For, ast.While)):
                self.assertEqual(node.orelse, [], (name, node.lineno))
            if isinstance(node, ast.Try):
                self.assertEqual(node.finalbody, [], (name, node.lineno))

    def test_comprehensions_are_small(self):
        for name, node in nodes():
            if isinstance(node, ast.ListComp):
                self.assertEqual(len(node.generators), 1, (name, node.lineno))
                self.assertLessEqual(len(node.generators[0].ifs), 1, (name, node.lineno))

    def test_imports_are_the_packages_own(self):
        for name, node in nodes():
            if isinstance(node, ast.ImportFrom):
                self.assertEqual(node.level, 0, name)
                self.assertTrue(node.module.startswith("kinghall."), (name, node.module))
                self.assertNotIn("*", [one.name for one in node.names], name)

    def test_imports_are_from_the_file_that_defines_the_name(self):
        for name, node in nodes():
            if isinstance(node, ast.ImportFrom):
                for one in node.names:
                    self.assertIn(one.name, names_at_top(node.module.rpartition(".")[2]), name)
                    self.assertIsNone(one.asname, name)

    def test_no_files_draw_from_one_another(self):
        drawn = drawn_from()
        free = []
        while len(free) < len(drawn):
            ready = [module for module in drawn if module not in free and drawn[module] <= set(free)]
            self.assertNotEqual(ready, [], "these draw from one another: " + str(sorted(set(drawn) - set(free))))
            free.extend(ready)

    def test_is_stands_beside_none_true_and_false(self):
        for name, node in nodes():
            if isinstance(node, ast.Compare) and any(isinstance(sign, (ast.Is, ast.IsNot)) for sign in node.ops):
                self.assertIn(getattr(node.comparators[0], "value", 0), (None, True, False), (name, node.lineno))

    def test_texts_and_powers(self):
        for name, node in nodes():
            if isinstance(node, ast.Constant) and isinstance(node.value, str):
                self.assertNotIn("%", node.value, (name, node.lineno))
            if isinstance(node, ast.BinOp) and isinstance(node.op, ast.Pow):
                self.assertIsInstance(node.right, ast.Constant, (name, node.lineno))


class TestNames(unittest.TestCase):
    def test_bound_names_are_plain(self):
        for name, node in nodes():
            for bound in bound_names(node):
                if bound != "__init__":
                    self.assertRegex(bound, r"^[A-Za-z][A-Za-z0-9_]*$", name)
                    self.assertFalse(hasattr(builtins, bound), (name, bound))

    def test_names_of_pythons_own(self):
        for name, node in nodes():
            if isinstance(node, ast.Name) and hasattr(builtins, node.id):
                self.assertIn(node.id, OWN_NAMES, (name, node.lineno))

    def test_methods_of_pythons_own(self):
        own = [node.name for name, node in nodes() if isinstance(node, ast.FunctionDef)]
        for name, node in nodes():
            if isinstance(node, ast.Call) and isinstance(node.func, ast.Attribute):
                self.assertIn(node.func.attr, METHODS + own, (name, node.lineno))


if __name__ == "__main__":
    unittest.main()

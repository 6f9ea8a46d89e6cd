"""The package keeps to the small part of Python that it is written in, as far as its files can tell."""

import ast
import builtins
import os
import re
import unittest

PACKAGE = os.path.join(os.path.dirname(os.path.dirname(os.path.abspath(__file__))), "spacewright")
ALLOWED_NAMES = (
    "len range enumerate zip min max sum abs sorted reversed int str bool list tuple dict set frozenset isinstance ord "
    "repr any all divmod Exception ValueError TypeError KeyError IndexError LookupError ZeroDivisionError "
    "ArithmeticError OverflowError RuntimeError NotImplementedError AttributeError StopIteration"
).split()
ALLOWED_METHODS = (
    "append clear copy count endswith extend find get index insert isalnum isalpha isdigit islower isspace isupper "
    "items join keys ljust lower lstrip partition pop remove replace reverse rfind rjust rpartition rsplit rstrip "
    "setdefault split splitlines startswith strip update upper values zfill bit_length"
).split()
WORDS_THAT_STAND_NOWHERE = (
    "type typing typing_extensions enum Enum IntEnum StrEnum Flag IntFlag Generic Protocol ABC ABCMeta namedtuple "
    "NamedTuple TypedDict TYPE_CHECKING abstractmethod"
).split()
STATEMENTS = (
    ast.Assign, ast.AugAssign, ast.If, ast.While, ast.For, ast.Return, ast.Break, ast.Continue, ast.Pass, ast.Raise,
    ast.Try, ast.Expr, ast.FunctionDef, ast.ClassDef, ast.ImportFrom,
)
NO_EXPRESSIONS = (
    ast.SetComp, ast.DictComp, ast.GeneratorExp, ast.NamedExpr, ast.Starred, ast.Div, ast.Yield, ast.YieldFrom,
    ast.Await,
)


def files():
    names = sorted(os.listdir(PACKAGE))
    return [name for name in names if name != "__pycache__"]


def source(name):
    with open(os.path.join(PACKAGE, name), encoding="utf-8", newline="") as file:
        return file.read()


def nodes(name):
    return list(ast.walk(ast.parse(source(name))))


def own_methods():
    found = {}
    for name in files():
        for node in nodes(name):
            if isinstance(node, ast.ClassDef):
                found.update({part.name: True for part in node.body if isinstance(part, ast.FunctionDef)})
    return found


class Language(unittest.TestCase):
    def test_files(self):
        self.assertIn("__init__.py", files())
        for name in files():
            self.assertRegex(name, r"^[a-z_][a-z0-9_]*\.py$")

    def test_signs_and_sizes(self):
        for name in files():
            text = source(name)
            self.assertRegex(text, r"^[ -~\n]*$")
            rows = text.split("\n")
            self.assertLessEqual(len(rows), 400)
            self.assertLessEqual(max([len(row) for row in rows]), 120)
            for node in nodes(name):
                if isinstance(node, ast.FunctionDef):
                    self.assertLessEqual(node.end_lineno - node.lineno + 1, 40, node.name)

    def test_words_that_stand_nowhere(self):
        for name in files():
            for word in WORDS_THAT_STAND_NOWHERE:
                self.assertIsNone(re.search(r"\b" + word + r"\b", source(name)), (name, word))

    def test_imports(self):
        drawn = {}
        for name in files():
            tree = ast.parse(source(name))
            imports = [node for node in ast.walk(tree) if isinstance(node, (ast.Import, ast.ImportFrom))]
            for node in imports:
                self.assertIn(node, tree.body)
                self.assertIsInstance(node, ast.ImportFrom)
                self.assertRegex(node.module, r"^spacewright\.[a-z]+$")
                self.assertNotIn("*", [one.name for one in node.names])
            drawn[name] = [node.module.split(".")[1] + ".py" for node in imports]
        self.no_rings(drawn)

    def no_rings(self, drawn):
        while drawn:
            free = [name for name in drawn if not [one for one in drawn[name] if one in drawn]]
            self.assertTrue(free, drawn)
            for name in free:
                del drawn[name]

    def test_statements_and_expressions(self):
        for name in files():
            tree = ast.parse(source(name))
            for node in ast.walk(tree):
                if isinstance(node, ast.stmt):
                    self.assertIsInstance(node, STATEMENTS, name)
                self.assertNotIsInstance(node, NO_EXPRESSIONS, name)
                if isinstance(node, ast.Expr) and node not in tree.body[:1]:
                    self.assertIsInstance(node.value, ast.Call)
                if isinstance(node, ast.Assign):
                    self.assertEqual(len(node.targets), 1)
                if isinstance(node, (ast.For, ast.While)):
                    self.assertEqual(node.orelse, [])
                if isinstance(node, (ast.FunctionDef, ast.ClassDef)):
                    self.assertEqual(node.decorator_list, [])
                if isinstance(node, ast.Constant):
                    self.assertNotIsInstance(node.value, (float, complex, bytes))
                    self.assertNotIn("%", str(node.value))
                if isinstance(node, ast.Compare) and isinstance(node.ops[0], (ast.Is, ast.IsNot)):
                    self.assertIsInstance(node.comparators[0], ast.Constant)

    def test_names(self):
        for name in files():
            for node in nodes(name):
                if isinstance(node, ast.Name):
                    self.assertFalse(node.id.startswith("_"), node.id)
                    if isinstance(node.ctx, ast.Store) or node.id not in ALLOWED_NAMES:
                        self.assertFalse(hasattr(builtins, node.id), (name, node.id))
                if isinstance(node, ast.arg):
                    self.assertFalse(hasattr(builtins, node.arg), (name, node.arg))

    def test_methods(self):
        own = own_methods()
        for name in files():
            for node in nodes(name):
                if isinstance(node, ast.Call) and isinstance(node.func, ast.Attribute):
                    self.assertTrue(node.func.attr in ALLOWED_METHODS or node.func.attr in own, (name, node.func.attr))

    def test_no_name_is_a_method_here_and_a_value_there(self):
        own = own_methods()
        for name in files():
            for node in nodes(name):
                if isinstance(node, ast.Attribute) and isinstance(node.ctx, ast.Store):
                    self.assertNotIn(node.attr, own, name)


if __name__ == "__main__":
    unittest.main()

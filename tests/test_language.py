"""The package keeps to the small part of Python that it is written in, as far as its files can tell."""

import ast
import builtins
import os
import re
import unittest

PACKAGE = os.path.join(os.path.dirname(os.path.dirname(os.path.abspath(__file__))), "spacewright")
ALLOWED_NAMES = (
    "len range enumerate zip min max sum abs sorted reversed int str bool list tuple dict set frozenset isinstance ord "
    "repr any all divmod Exception ValueError TypeError KeyError IndexError LookupError ZeroDivisionError "
    "ArithmeticError OverflowError RuntimeError NotImplementedError AttributeError StopIteration"
).split()
ALLOWED_METHODS = (
    "append clear copy count endswith extend find get index insert isalnum isalpha isdigit islower isspace isupper "
    "items join keys ljust lower lstrip partition pop remove replace reverse rfind rjust rpartition rsplit rstrip "
    "setdefault split splitlines startswith strip update upper values zfill bit_length"
).split()
WORDS_THAT_STAND_NOWHERE = (
    "type typing typing_extensions enum Enum IntEnum StrEnum Flag IntFlag Generic Protocol ABC ABCMeta namedtuple "
    "NamedTuple TypedDict TYPE_CHECKING abstractmethod"
).split()
NAMES_NOT_USED = (
    "register mro elements open input version_info with_traceback add_note attrgetter breakpoint builtins compile "
    "copyright credits delattr dir eval exec exit gc getattr globals hasattr help id importlib license locals "
    "methodcaller os quit setattr super type vars sys format format_map chr"
).split()
VALUES_THAT_MAY_BE = "count index title find get join lower upper split strip copy add".split()
WALKERS = "list tuple dict sorted sum any all enumerate zip min max".split()
STATEMENTS = (
    ast.Assign, ast.AugAssign, ast.If, ast.While, ast.For, ast.Return, ast.Break, ast.Continue, ast.Pass, ast.Raise,
    ast.Try, ast.Expr, ast.FunctionDef, ast.ClassDef, ast.ImportFrom,
)
NO_EXPRESSIONS = (
    ast.SetComp, ast.DictComp, ast.GeneratorExp, ast.NamedExpr, ast.Starred, ast.Div, ast.Yield, ast.YieldFrom,
    ast.Await,
)


def files():
    names = sorted(os.listdir(PACKAGE))
    return [name for name in names if name != "__pycache__"]


def source(name):
    with open(os.path.join(PACKAGE, name), encoding="utf-8", newline="") as file:
        return file.read()


def nodes(name):
    return list(ast.walk(ast.parse(source(name))))


def is_walk(node):
    if not isinstance(node, ast.Call):
        return False
    if isinstance(node.func, ast.Attribute):
        return node.func.attr in ("items", "keys", "values")
    return isinstance(node.func, ast.Name) and node.func.id in ("zip", "enumerate", "reversed", "range")


def own_methods():
    found = {}
    for name in files():
        for node in nodes(name):
            if isinstance(node, ast.ClassDef):
                found.update({part.name: True for part in node.body if isinstance(part, ast.FunctionDef)})
    return found


class Language(unittest.TestCase):
    def test_files(self):
        self.assertIn("__init__.py", files())
        for name in files():
            self.assertRegex(name, r"^[a-z_][a-z0-9_]*\.py$")

    def test_signs_and_sizes(self):
        for name in files():
            text = source(name)
            self.assertRegex(text, r"^[ -~\n]*$")
            rows = text.split("\n")
            self.assertLessEqual(len(rows), 400)
            self.assertLessEqual(max([len(row) for row in rows]), 120)
            for node in nodes(name):
                if isinstance(node, ast.FunctionDef):
                    self.assertLessEqual(node.end_lineno - node.lineno + 1, 40, node.name)

    def test_words_that_stand_nowhere(self):
        for name in files():
            for word in WORDS_THAT_STAND_NOWHERE:
                self.assertIsNone(re.search(r"\b" + word + r"\b", source(name)), (name, word))

    def test_imports(self):
        drawn = {}
        for name in files():
            tree = ast.parse(source(name))
            imports = [node for node in ast.walk(tree) if isinstance(node, (ast.Import, ast.ImportFrom))]
            for node in imports:
                self.assertIn(node, tree.body)
                self.assertIsInstance(node, ast.ImportFrom)
                self.assertRegex(node.module, r"^spacewright\.[a-z]+$")
                self.assertNotIn("*", [one.name for one in node.names])
            drawn[name] = [node.module.split(".")[1] + ".py" for node in imports]
        self.no_rings(drawn)

    def no_rings(self, drawn):
        while drawn:
            free = [name for name in drawn if not [one for one in drawn[name] if one in drawn]]
            self.assertTrue(free, drawn)
            for name in free:
                del drawn[name]

    def test_statements_and_expressions(self):
        for name in files():
            tree = ast.parse(source(name))
            for node in ast.walk(tree):
                if isinstance(node, ast.stmt):
                    self.assertIsInstance(node, STATEMENTS, name)
                self.assertNotIsInstance(node, NO_EXPRESSIONS, name)
                if isinstance(node, ast.Expr) and node not in tree.body[:1]:
                    self.assertIsInstance(node.value, ast.Call)
                if isinstance(node, ast.Assign):
                    self.assertEqual(len(node.targets), 1)
                if isinstance(node, (ast.For, ast.While)):
                    self.assertEqual(node.orelse, [])
                if isinstance(node, (ast.FunctionDef, ast.ClassDef)):
                    self.assertEqual(node.decorator_list, [])
                if isinstance(node, ast.Constant):
                    self.assertNotIsInstance(node.value, (float, complex, bytes))
                    self.assertNotIn("%", str(node.value))
                if isinstance(node, ast.Compare) and isinstance(node.ops[0], (ast.Is, ast.IsNot)):
                    self.assertIsInstance(node.comparators[0], ast.Constant)

    def test_names(self):
        for name in files():
            for node in nodes(name):
                if isinstance(node, ast.Name):
                    self.assertFalse(node.id.startswith("_"), node.id)
                    if isinstance(node.ctx, ast.Store) or node.id not in ALLOWED_NAMES:
                        self.assertFalse(hasattr(builtins, node.id), (name, node.id))
                if isinstance(node, ast.arg):
                    self.assertFalse(hasattr(builtins, node.arg), (name, node.arg))

    def test_methods(self):
        own = own_methods()
        for name in files():
            for node in nodes(name):
                if isinstance(node, ast.Call) and isinstance(node.func, ast.Attribute):
                    self.assertTrue(node.func.attr in ALLOWED_METHODS or node.func.attr in own, (name, node.func.attr))

    def test_no_name_is_a_method_here_and_a_value_there(self):
        own = own_methods()
        for name in files():
            for node in nodes(name):
                if isinstance(node, ast.Attribute) and isinstance(node.ctx, ast.Store):
                    self.assertNotIn(node.attr, own, name)

    def test_locals_hide_nothing_of_the_file(self):
        for name in files():
            tree = ast.parse(source(name))
            top = {one.asname or one.name for node in tree.body if isinstance(node, ast.ImportFrom) for one in node.names}
            top.update({node.name for node in tree.body if isinstance(node, (ast.ClassDef, ast.FunctionDef))})
            top.update({one.id for node in tree.body if isinstance(node, ast.Assign) for one in node.targets})
            for outer in ast.walk(tree):
                if isinstance(outer, (ast.FunctionDef, ast.Lambda, ast.ListComp)):
                    for node in ast.walk(outer):
                        if isinstance(node, ast.Name) and isinstance(node.ctx, ast.Store):
                            self.assertNotIn(node.id, top, name)
                        if isinstance(node, ast.arg):
                            self.assertNotIn(node.arg, top, name)

    def test_names_at_the_top_are_bound_once(self):
        for name in files():
            bound = []
            for node in ast.parse(source(name)).body:
                if isinstance(node, (ast.FunctionDef, ast.ClassDef)):
                    bound.append(node.name)
                if isinstance(node, ast.Assign):
                    bound.extend([one.id for one in node.targets])
                if isinstance(node, ast.ImportFrom):
                    bound.extend([one.name for one in node.names])
            self.assertEqual(len(bound), len(set(bound)), name)

    def test_values_of_objects(self):
        own_of_python = [name for kind in (str, int, list, dict, set, bytes) for name in dir(kind)]
        for name in files():
            for node in nodes(name):
                if isinstance(node, ast.Attribute):
                    self.assertFalse(node.attr.startswith("_") and node.attr != "__init__", (name, node.attr))
                    self.assertNotIn(node.attr, NAMES_NOT_USED, name)
                    if isinstance(node.ctx, ast.Store):
                        self.assertTrue(node.attr not in own_of_python or node.attr in VALUES_THAT_MAY_BE, node.attr)
                        self.assertIsInstance(node.value, ast.Name)
                if isinstance(node, (ast.FunctionDef, ast.ClassDef)):
                    self.assertNotIn(node.name, NAMES_NOT_USED, name)
                if isinstance(node, ast.Name):
                    self.assertNotIn(node.id, NAMES_NOT_USED, name)

    def test_classes_are_not_handed_on(self):
        classes = {node.name for name in files() for node in nodes(name) if isinstance(node, ast.ClassDef)}
        for name in files():
            allowed = []
            for node in nodes(name):
                if isinstance(node, ast.Call):
                    allowed.append(node.func)
                    if isinstance(node.func, ast.Name) and node.func.id == "isinstance":
                        allowed.append(node.args[1])
                    if isinstance(node.func, ast.Attribute) and node.func.attr == "__init__":
                        allowed.append(node.func.value)
                if isinstance(node, ast.ClassDef):
                    self.assertLessEqual(len(node.bases), 1)
                    allowed.extend(node.bases)
                if isinstance(node, ast.ExceptHandler):
                    self.assertIn(node.type.id, classes | {"KeyError"}, name)
                    allowed.append(node.type)
            for node in nodes(name):
                if isinstance(node, ast.Name) and node.id in classes:
                    self.assertIn(ast.dump(node), [ast.dump(one) for one in allowed], (name, node.id))

    def test_walked_at_once(self):
        for name in files():
            walked = []
            for node in nodes(name):
                if isinstance(node, (ast.For, ast.comprehension)):
                    walked.append(node.iter)
                if isinstance(node, ast.Call) and isinstance(node.func, ast.Name) and node.func.id in WALKERS:
                    walked.extend(node.args[:1])
            for node in nodes(name):
                if is_walk(node):
                    self.assertIn(ast.dump(node), [ast.dump(one) for one in walked], name)

    def test_sets_are_not_kept(self):
        for name in files():
            good = []
            for node in nodes(name):
                if isinstance(node, ast.Call) and isinstance(node.func, ast.Name) and node.func.id in ("sorted", "len"):
                    good.extend([ast.dump(one) for arg in node.args for one in ast.walk(arg)])
                if isinstance(node, ast.Compare):
                    good.extend([ast.dump(one) for one in ast.walk(node)])
            for node in nodes(name):
                self.assertNotIsInstance(node, ast.Set)
                if isinstance(node, ast.Call) and isinstance(node.func, ast.Name) and node.func.id == "set":
                    self.assertIn(ast.dump(node), good, name)


if __name__ == "__main__":
    unittest.main()

"""The form of the package: those rules of its language that a look at the text can tell."""

import ast
import builtins
import os
import unittest

PACKAGE = os.path.join(os.path.dirname(os.path.dirname(os.path.abspath(__file__))), "carryways")
ALLOWED_BUILTINS = [
    "len", "range", "enumerate", "zip", "min", "max", "sum", "abs", "sorted", "reversed", "int", "str", "bool", "list",
    "tuple", "dict", "set", "isinstance", "ord", "repr", "any", "all", "divmod", "map", "ValueError", "KeyError",
]
METHODS = """
    append clear copy count endswith extend find get index insert isalnum isalpha isdigit islower isspace isupper items
    join keys ljust lower lstrip partition pop remove replace reverse rfind rjust rpartition rsplit rstrip setdefault
    split splitlines startswith strip update upper values zfill bit_length removeprefix""".split()
WORDS = """
    type typing typing_extensions enum Enum IntEnum StrEnum Flag IntFlag Generic Protocol ABC ABCMeta namedtuple
    NamedTuple TypedDict TYPE_CHECKING abstractmethod register mro elements open input law version_info""".split()
BARRED = (
    ast.GeneratorExp, ast.Global, ast.AsyncFunctionDef, ast.Await, ast.Div, ast.Import, ast.Pow, ast.Lambda, ast.Yield,
    ast.SetComp, ast.Set, ast.Match)


def texts():
    """The files of the package by their names."""
    found = {}
    for name in sorted(os.listdir(PACKAGE)):
        if name != "__pycache__":
            with open(os.path.join(PACKAGE, name), encoding="utf-8", newline="") as file:
                found[name] = file.read()
    return found


TREES = {name: ast.parse(text) for name, text in texts().items()}


def trees():
    return TREES


def imports_of(tree):
    return [node for node in ast.walk(tree) if isinstance(node, ast.ImportFrom)]


def file_of(imported):
    return imported.module.partition(".")[2] + ".py"


def names_bound(tree):
    """All names of variables, parameters, functions and classes, imports apart."""
    names = [node.id for node in ast.walk(tree) if isinstance(node, ast.Name) and not isinstance(node.ctx, ast.Load)]
    names += [node.arg for node in ast.walk(tree) if isinstance(node, ast.arg)]
    return names + [node.name for node in ast.walk(tree) if isinstance(node, (ast.FunctionDef, ast.ClassDef))]


class Form(unittest.TestCase):
    def test_files(self):
        self.assertIn("__init__.py", texts())
        for name, text in texts().items():
            self.assertTrue(name.endswith(".py") and name == name.lower(), name)
            self.assertTrue(all(" " <= sign <= "~" or sign == "\n" for sign in text), name)
            self.assertLess(len(text.split("\n")), 400, name)
            self.assertLessEqual(max(len(line) for line in text.split("\n")), 120, name)

    def test_functions_are_small(self):
        for name, tree in trees().items():
            for node in ast.walk(tree):
                if isinstance(node, ast.FunctionDef):
                    self.assertLessEqual(node.end_lineno - node.lineno + 1, 40, (name, node.name))

    def test_module_level(self):
        for name, tree in trees().items():
            self.assertIsNotNone(ast.get_docstring(tree), name)
            for node in tree.body[1:]:
                self.assertIsInstance(node, (ast.ImportFrom, ast.FunctionDef, ast.ClassDef, ast.Assign), name)

    def test_imports_name_the_file_that_defines(self):
        for name, tree in trees().items():
            for imported in imports_of(tree):
                self.assertTrue(imported.module.startswith("carryways."), (name, imported.module))
                defined = names_bound(trees()[file_of(imported)])
                for part in imported.names:
                    self.assertIsNone(part.asname)
                    self.assertIn(part.name, defined, name)
                    self.assertNotIn(part.name, names_bound(tree), name)

    def test_no_two_files_import_from_each_other(self):
        left = {name: [file_of(imported) for imported in imports_of(tree)] for name, tree in trees().items()}
        while left:
            free = [name for name in left if not any(late in left for late in left[name])]
            self.assertNotEqual(free, [], left)
            for name in free:
                del left[name]

    def test_signs_and_builtins(self):
        for name, tree in trees().items():
            renamed = [one for one in names_bound(tree) if hasattr(builtins, one) and not one.startswith("__")]
            self.assertEqual(renamed, [], name)
            known = names_bound(tree) + [part.name for imported in imports_of(tree) for part in imported.names]
            for node in ast.walk(tree):
                self.assertNotIsInstance(node, BARRED, (name, getattr(node, "lineno", 0)))
                if isinstance(node, ast.Name):
                    self.assertIn(node.id, known + ALLOWED_BUILTINS, (name, node.lineno))

    def test_methods(self):
        own = []
        for tree in trees().values():
            for node in ast.walk(tree):
                if isinstance(node, ast.ClassDef):
                    own += [part.name for part in node.body if isinstance(part, ast.FunctionDef)]
        for name, tree in trees().items():
            for node in ast.walk(tree):
                if isinstance(node, ast.Attribute):
                    kept = node.attr.startswith("_") and isinstance(node.value, ast.Name)
                    self.assertTrue(node.attr in METHODS + own + ["value"] or kept, (name, node.attr))

    def test_words_and_literals(self):
        for name, tree in trees().items():
            for node in ast.walk(tree):
                words = [getattr(node, part, None) for part in ("id", "attr", "arg", "name")]
                self.assertFalse([word for word in words if word in WORDS], name)
                if isinstance(node, ast.Constant):
                    self.assertNotIsInstance(node.value, (float, complex, bytes), name)
                    self.assertNotIn("%", str(node.value), name)
                if isinstance(node, ast.Compare):
                    for sign, late in zip(node.ops, node.comparators):
                        if isinstance(sign, (ast.Is, ast.IsNot)):
                            self.assertIsInstance(late, ast.Constant, (name, node.lineno))

    def test_own_errors_alone_are_caught_by_name(self):
        own = [node.name for node in trees()["errors.py"].body if isinstance(node, ast.ClassDef)]
        for name, tree in trees().items():
            for node in ast.walk(tree):
                if isinstance(node, ast.Try):
                    self.assertEqual(node.finalbody, [], name)
                    for handler in node.handlers:
                        self.assertIn(getattr(handler.type, "id", None), own, (name, handler.lineno))
                        self.assertIsNone(handler.name)
                if isinstance(node, ast.Raise):
                    self.assertIn(getattr(getattr(node.exc, "func", None), "id", None), own, (name, node.lineno))

    def test_blocks_are_left_by_plain_assignments(self):
        left = [node for tree in trees().values() for node in ast.walk(tree)
                if isinstance(node, ast.FunctionDef) and node.name == "__exit__"]
        self.assertEqual(len(left), 1)
        for row in left[0].body:
            self.assertIsInstance(row, ast.Assign)
            self.assertIsInstance(row.value, ast.Attribute)
            self.assertEqual(row.value.value.id, "self")

    def test_what_is_looped_over_is_not_changed(self):
        changing = ("append", "clear", "extend", "insert", "pop", "remove", "reverse", "setdefault", "update")
        for name, tree in trees().items():
            for loop in [node for node in ast.walk(tree) if isinstance(node, ast.For)]:
                read = [node.id for node in ast.walk(loop.iter) if isinstance(node, ast.Name)]
                inside = [node for part in loop.body for node in ast.walk(part)]
                changed = [
                    node.func.value.id for node in inside if isinstance(node, ast.Call)
                    and isinstance(node.func, ast.Attribute) and node.func.attr in changing
                    and isinstance(node.func.value, ast.Name)]
                changed += [
                    node.value.id for node in inside if isinstance(node, ast.Subscript)
                    and isinstance(node.ctx, ast.Store) and isinstance(node.value, ast.Name)]
                self.assertFalse([one for one in changed if one in read], (name, loop.lineno))


if __name__ == "__main__":
    unittest.main()

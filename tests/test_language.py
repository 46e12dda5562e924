"""The package keeps to the small part of Python that its rules L1 to L28 tell, as far as a walk of its trees can see."""

import ast
import builtins
import pathlib
import re
import unittest

PACKAGE = pathlib.Path(__file__).resolve().parent.parent / "pursebench"

STATEMENTS = (ast.Assign, ast.AugAssign, ast.If, ast.While, ast.For, ast.Return, ast.Break, ast.Continue, ast.Pass,
              ast.Raise, ast.Try, ast.Expr, ast.FunctionDef, ast.ClassDef, ast.ImportFrom)
NEVER = (ast.Set, ast.SetComp, ast.DictComp, ast.GeneratorExp, ast.NamedExpr, ast.Starred, ast.Div, ast.Await,
         ast.Yield, ast.YieldFrom, ast.MatMult)
OWN_OF_PYTHON = set("""
    len range enumerate zip min max sum abs sorted reversed int str bool list tuple dict set frozenset isinstance ord
    repr any all divmod Exception ValueError TypeError KeyError IndexError LookupError ZeroDivisionError
    ArithmeticError OverflowError RuntimeError NotImplementedError AttributeError StopIteration
""".split())
METHODS = set("""
    append clear copy count endswith extend find get index insert isalnum isalpha isdigit islower isspace isupper
    items join keys ljust lower lstrip partition pop remove replace reverse rfind rjust rpartition rsplit rstrip
    setdefault split splitlines startswith strip update upper values zfill bit_length
""".split())
DOUBLE_UNDERSCORES = {"__init__", "__eq__", "__repr__", "__str__", "__len__"}
WORDS = set("""
    type typing typing_extensions enum Enum IntEnum StrEnum Flag IntFlag Generic Protocol ABC ABCMeta namedtuple
    NamedTuple TypedDict TYPE_CHECKING abstractmethod
""".split())
PARTS = ["dataclass", "overload", "contextmanager"]


def files():
    return sorted(path for path in PACKAGE.rglob("*") if path.is_file() and path.parent.name != "__pycache__")


def trees():
    return [(path.name, ast.parse(path.read_text(encoding="utf-8"))) for path in files()]


def own_methods():
    found = set()
    for name, tree in trees():
        for node in ast.walk(tree):
            if isinstance(node, ast.ClassDef):
                found.update(part.name for part in node.body if isinstance(part, ast.FunctionDef))
    return found


def bound_names(tree):
    found = []
    for node in ast.walk(tree):
        if isinstance(node, (ast.FunctionDef, ast.ClassDef)):
            found.append(node.name)
        elif isinstance(node, ast.arg):
            found.append(node.arg)
        elif isinstance(node, ast.Name) and isinstance(node.ctx, ast.Store):
            found.append(node.id)
    return found


def imports_of(tree):
    """Pairs of the module's own file name and the name that is drawn from it."""
    return [(node.module.split(".")[-1], alias.name)
            for node in tree.body if isinstance(node, ast.ImportFrom) for alias in node.names]


def top_names(tree):
    found = [node.name for node in tree.body if isinstance(node, (ast.FunctionDef, ast.ClassDef))]
    for node in tree.body:
        if isinstance(node, ast.Assign):
            found.extend(part.id for part in ast.walk(node.targets[0]) if isinstance(part, ast.Name))
    return found


def inner_names(tree):
    """The parameters and locals of a file's functions."""
    found = set()
    for node in ast.walk(tree):
        if isinstance(node, ast.FunctionDef):
            for part in ast.walk(node):
                if isinstance(part, ast.arg):
                    found.add(part.arg)
                elif isinstance(part, ast.Name) and isinstance(part.ctx, ast.Store):
                    found.add(part.id)
    return found


class Files(unittest.TestCase):
    def test_files_are_plain_modules(self):
        self.assertIn("__init__.py", [path.name for path in files()])
        for path in files():
            self.assertRegex(path.name, r"^(__init__|__main__|[a-z][a-z0-9_]*)\.py$")
            self.assertNotIn(path.stem, dir(builtins))
            self.assertIsNone(re.match(r"test|site|conftest", path.stem))

    def test_signs_and_sizes(self):
        for path in files():
            rows = path.read_text(encoding="utf-8").split("\n")
            self.assertLessEqual(len(rows), 401, path.name)
            for row in rows:
                self.assertRegex(row, r"^[ -~]{0,120}$", path.name)

    def test_words_that_stand_nowhere(self):
        for path in files():
            text = path.read_text(encoding="utf-8")
            self.assertEqual(set(re.findall(r"\w+", text)) & WORDS, set(), path.name)
            for part in PARTS:
                self.assertNotIn(part, text, path.name)


class Trees(unittest.TestCase):
    def where(self, name, node):
        return f"{name}:{getattr(node, 'lineno', 0)}"

    def test_statements_and_expressions(self):
        for name, tree in trees():
            for node in ast.walk(tree):
                where = self.where(name, node)
                self.assertNotIsInstance(node, NEVER, where)
                if isinstance(node, ast.stmt):
                    self.assertIsInstance(node, STATEMENTS, where)
                if isinstance(node, (ast.For, ast.While)):
                    self.assertEqual(node.orelse, [], where)
                if isinstance(node, ast.Assign):
                    self.assertEqual(len(node.targets), 1, where)
                if isinstance(node, ast.Constant):
                    self.assertNotIsInstance(node.value, (float, complex, bytes), where)
                if isinstance(node, ast.ListComp):
                    self.assertEqual(len(node.generators), 1, where)
                    self.assertLessEqual(len(node.generators[0].ifs), 1, where)
                if isinstance(node, ast.Compare) and isinstance(node.ops[0], (ast.Is, ast.IsNot)):
                    self.assertIsInstance(node.comparators[0], ast.Constant, where)

    def test_imports_are_the_packages_own(self):
        for name, tree in trees():
            for node in ast.walk(tree):
                if isinstance(node, ast.ImportFrom):
                    self.assertIn(node, tree.body, self.where(name, node))
                    self.assertEqual(node.level, 0, self.where(name, node))
                    self.assertRegex(node.module, r"^pursebench\.[a-z_]+$", self.where(name, node))
                    self.assertNotIn("*", [alias.name for alias in node.names], self.where(name, node))

    def test_a_name_is_drawn_from_the_file_that_defines_it(self):
        defined = {name[:-len(".py")]: top_names(tree) for name, tree in trees()}
        for name, tree in trees():
            for module, drawn in imports_of(tree):
                self.assertIn(drawn, defined[module], name)

    def test_no_two_files_draw_from_one_another(self):
        draws = {name[:-len(".py")]: {module for module, drawn in imports_of(tree)} for name, tree in trees()}
        while draws:
            free = [name for name in draws if not draws[name] & set(draws)]
            self.assertNotEqual(free, [], "files in a ring: " + " ".join(sorted(draws)))
            for name in free:
                draws.pop(name)

    def test_each_name_is_bound_once(self):
        for name, tree in trees():
            tops = top_names(tree) + [drawn for module, drawn in imports_of(tree)]
            self.assertEqual(len(tops), len(set(tops)), name)
            self.assertEqual(inner_names(tree) & set(tops), set(), name)

    def test_a_row_by_itself_is_a_call(self):
        for name, tree in trees():
            for node in ast.walk(tree):
                if isinstance(node, ast.Expr) and node != tree.body[0]:
                    self.assertIsInstance(node.value, ast.Call, self.where(name, node))

    def test_functions_and_classes(self):
        for name, tree in trees():
            for node in ast.walk(tree):
                where = self.where(name, node)
                if isinstance(node, ast.FunctionDef):
                    self.assertLessEqual(node.end_lineno - node.lineno + 1, 40, where)
                    self.assertEqual(node.decorator_list, [], where)
                    parts = node.args
                    self.assertEqual((parts.vararg, parts.kwarg, parts.kwonlyargs, parts.posonlyargs),
                                     (None, None, [], []), where)
                if isinstance(node, ast.ClassDef):
                    self.assertIn(node, tree.body, where)
                    self.assertEqual((node.decorator_list, node.keywords), ([], []), where)
                    self.assertLessEqual(len(node.bases), 1, where)
                    for part in node.body:
                        self.assertIsInstance(part, (ast.FunctionDef, ast.Pass), where)

    def test_names(self):
        for name, tree in trees():
            for bound in bound_names(tree):
                if bound not in DOUBLE_UNDERSCORES:
                    self.assertRegex(bound, r"^[A-Za-z][A-Za-z0-9_]*$", name)
                    self.assertFalse(hasattr(builtins, bound), f"{name}: {bound}")
            for node in ast.walk(tree):
                if isinstance(node, ast.Name) and hasattr(builtins, node.id):
                    self.assertIn(node.id, OWN_OF_PYTHON, self.where(name, node))

    def test_methods(self):
        free = METHODS | own_methods()
        for name, tree in trees():
            for node in ast.walk(tree):
                if isinstance(node, ast.Call) and isinstance(node.func, ast.Attribute):
                    self.assertIn(node.func.attr, free, self.where(name, node))


if __name__ == "__main__":
    unittest.main()

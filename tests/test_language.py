"""The package keeps to the small part of Python that rules L1 to L28 tell, as far as a walk of its trees can see."""

import ast
import builtins
import pathlib
import re
import unittest

PACKAGE = pathlib.Path(__file__).resolve().parent.parent / "pursebench"

STATEMENTS = (ast.Assign, ast.AugAssign, ast.If, ast.While, ast.For, ast.Return, ast.Break, ast.Continue, ast.Pass,
              ast.Raise, ast.Try, ast.Expr, ast.FunctionDef, ast.ClassDef, ast.ImportFrom)
NEVER = (ast.Set, ast.SetComp, ast.DictComp, ast.GeneratorExp, ast.NamedExpr, ast.Starred, ast.Div, ast.Await,
         ast.Yield, ast.YieldFrom, ast.MatMult)
OWN_OF_PYTHON = set("""
    len range enumerate zip min max sum abs sorted reversed int str bool list tuple dict set frozenset isinstance ord
    repr any all divmod Exception ValueError TypeError KeyError IndexError LookupError ZeroDivisionError
    ArithmeticError OverflowError RuntimeError NotImplementedError AttributeError StopIteration
""".split())
METHODS = set("""
    append clear copy count endswith extend find get index insert isalnum isalpha isdigit islower isspace isupper
    items join keys ljust lower lstrip partition pop remove replace reverse rfind rjust rpartition rsplit rstrip
    setdefault split splitlines startswith strip update upper values zfill bit_length
""".split())
DOUBLE_UNDERSCORES = {"__init__", "__eq__", "__repr__", "__str__", "__len__"}
WORDS = set("""
    type typing typing_extensions enum Enum IntEnum StrEnum Flag IntFlag Generic Protocol ABC ABCMeta namedtuple
    NamedTuple TypedDict TYPE_CHECKING abstractmethod
""".split())
PARTS = ["dataclass", "overload", "contextmanager"]
NOWHERE = set("""
    register mro elements open input version_info with_traceback add_note attrgetter breakpoint builtins compile
    copyright credits delattr dir eval exec exit gc getattr globals hasattr help id importlib license locals
    methodcaller os quit setattr super vars sys
""".split())
# Names that Python's own values have, but that an object's value may have too.
FREE_VALUES = set("count index title find get join lower upper split strip copy add".split())
NO_VALUES = set("args".split())
WALKS = {"zip", "enumerate", "reversed", "range"}
WALKING_METHODS = {"items", "keys", "values"}
WALKERS = {"list", "tuple", "dict", "sorted", "sum", "any", "all", "enumerate", "zip", "min", "max"}
KEYWORDS = {"sorted": {"key", "reverse"}, "min": {"key", "default"}, "max": {"key", "default"}, "sum": {"start"},
            "enumerate": {"start"}, "zip": {"strict"}}
CHANGES = {"append", "clear", "extend", "insert", "pop", "remove", "reverse", "setdefault", "update"}


def files():
    return sorted(path for path in PACKAGE.rglob("*") if path.is_file() and path.parent.name != "__pycache__")


def trees():
    return [(path.name, ast.parse(path.read_text(encoding="utf-8"))) for path in files()]


def own_methods():
    found = set()
    for name, tree in trees():
        for node in ast.walk(tree):
            if isinstance(node, ast.ClassDef):
                found.update(part.name for part in node.body if isinstance(part, ast.FunctionDef))
    return found


def own_values():
    """The names under which the package's objects keep something."""
    found = set()
    for name, tree in trees():
        for node in ast.walk(tree):
            if isinstance(node, ast.Attribute) and isinstance(node.ctx, ast.Store):
                found.add(node.attr)
    return found


def pythons_own(name):
    return any(hasattr(kind, name) for kind in [str, int, list, tuple, dict, set, bytes])


def parents_of(tree):
    return {child: node for node in ast.walk(tree) for child in ast.iter_child_nodes(node)}


def called_name(node):
    """The name of a function that is called by its name, else None."""
    return node.func.id if isinstance(node, ast.Call) and isinstance(node.func, ast.Name) else None


def called_method(node):
    return node.func.attr if isinstance(node, ast.Call) and isinstance(node.func, ast.Attribute) else None


def walked_on_the_spot(node, parent):
    if isinstance(parent, (ast.For, ast.comprehension)):
        return parent.iter is node
    return called_name(parent) in WALKERS and parent.args[0] is node


def is_plain(node):
    """A value that may stand at a file's top; a list or dict holds no list or dict."""
    if isinstance(node, ast.Constant):
        return True
    if isinstance(node, ast.UnaryOp) and isinstance(node.op, ast.USub):
        return isinstance(node.operand, ast.Constant)
    if isinstance(node, ast.Dict):
        parts = node.keys + node.values
    elif isinstance(node, (ast.List, ast.Tuple)):
        parts = node.elts
    else:
        return False
    return all(is_plain(part) and not isinstance(part, (ast.List, ast.Dict)) for part in parts)


def bound_names(tree):
    found = []
    for node in ast.walk(tree):
        if isinstance(node, (ast.FunctionDef, ast.ClassDef)):
            found.append(node.name)
        elif isinstance(node, ast.arg):
            found.append(node.arg)
        elif isinstance(node, ast.Name) and isinstance(node.ctx, ast.Store):
            found.append(node.id)
    return found


def imports_of(tree):
    """Pairs of the module's own file name and the name that is drawn from it."""
    return [(node.module.split(".")[-1], alias.name)
            for node in tree.body if isinstance(node, ast.ImportFrom) for alias in node.names]


def top_names(tree):
    found = [node.name for node in tree.body if isinstance(node, (ast.FunctionDef, ast.ClassDef))]
    for node in tree.body:
        if isinstance(node, ast.Assign):
            found.extend(part.id for part in ast.walk(node.targets[0]) if isinstance(part, ast.Name))
    return found


def inner_names(tree):
    """The parameters and locals of a file's functions."""
    found = set()
    for node in ast.walk(tree):
        if isinstance(node, ast.FunctionDef):
            for part in ast.walk(node):
                if isinstance(part, ast.arg):
                    found.add(part.arg)
                elif isinstance(part, ast.Name) and isinstance(part.ctx, ast.Store):
                    found.add(part.id)
    return found


class Files(unittest.TestCase):
    def test_files_are_plain_modules(self):
        self.assertIn("__init__.py", [path.name for path in files()])
        for path in files():
            self.assertRegex(path.name, r"^(__init__|__main__|[a-z][a-z0-9_]*)\.py$")
            self.assertNotIn(path.stem, dir(builtins))
            self.assertIsNone(re.match(r"test|site|conftest", path.stem))

    def test_signs_and_sizes(self):
        for path in files():
            rows = path.read_text(encoding="utf-8").split("\n")
            self.assertLessEqual(len(rows), 401, path.name)
            for row in rows:
                self.assertRegex(row, r"^[ -~]{0,120}$", path.name)

    def test_words_that_stand_nowhere(self):
        for path in files():
            text = path.read_text(encoding="utf-8")
            self.assertEqual(set(re.findall(r"\w+", text)) & WORDS, set(), path.name)
            for part in PARTS:
                self.assertNotIn(part, text, path.name)


class Trees(unittest.TestCase):
    def where(self, name, node):
        return f"{name}:{getattr(node, 'lineno', 0)}"

    def test_statements_and_expressions(self):
        for name, tree in trees():
            for node in ast.walk(tree):
                where = self.where(name, node)
                self.assertNotIsInstance(node, NEVER, where)
                if isinstance(node, ast.stmt):
                    self.assertIsInstance(node, STATEMENTS, where)
                if isinstance(node, (ast.For, ast.While)):
                    self.assertEqual(node.orelse, [], where)
                if isinstance(node, ast.Assign):
                    self.assertEqual(len(node.targets), 1, where)
                if isinstance(node, ast.Constant):
                    self.assertNotIsInstance(node.value, (float, complex, bytes), where)
                if isinstance(node, ast.ListComp):
                    self.assertEqual(len(node.generators), 1, where)
                    self.assertLessEqual(len(node.generators[0].ifs), 1, where)
                if isinstance(node, ast.Compare) and isinstance(node.ops[0], (ast.Is, ast.IsNot)):
                    self.assertIsInstance(node.comparators[0], ast.Constant, where)
                    self.assertIn(repr(node.comparators[0].value), ["None", "True", "False"], where)
                if isinstance(node, ast.BinOp) and isinstance(node.op, ast.Pow):
                    self.assertIsInstance(node.right, ast.Constant, where)
                    self.assertIn(node.right.value, range(65), where)
                if isinstance(node, ast.Constant) and isinstance(node.value, str):
                    self.assertNotIn("%", node.value, where)
                if isinstance(node, ast.ExceptHandler):
                    self.assertIsNotNone(node.type, where)
                    for part in ast.walk(node.type):
                        self.assertNotIn(getattr(part, "id", ""), ["Exception", "TypeError"], where)

    def test_the_top_of_a_file(self):
        for name, tree in trees():
            self.assertIsNotNone(ast.get_docstring(tree), name)
            for node in tree.body[1:]:
                where = self.where(name, node)
                self.assertIsInstance(node, (ast.ImportFrom, ast.FunctionDef, ast.ClassDef, ast.Assign), where)
                if isinstance(node, ast.Assign):
                    self.assertIsInstance(node.targets[0], ast.Name, where)
                    self.assertTrue(is_plain(node.value), where)

    def test_imports_are_the_packages_own(self):
        for name, tree in trees():
            for node in ast.walk(tree):
                if isinstance(node, ast.ImportFrom):
                    self.assertIn(node, tree.body, self.where(name, node))
                    self.assertEqual(node.level, 0, self.where(name, node))
                    self.assertRegex(node.module, r"^pursebench\.[a-z_]+$", self.where(name, node))
                    self.assertNotIn("*", [alias.name for alias in node.names], self.where(name, node))

    def test_a_name_is_drawn_from_the_file_that_defines_it(self):
        defined = {name[:-len(".py")]: top_names(tree) for name, tree in trees()}
        for name, tree in trees():
            for module, drawn in imports_of(tree):
                self.assertIn(drawn, defined[module], name)

    def test_no_two_files_draw_from_one_another(self):
        draws = {name[:-len(".py")]: {module for module, drawn in imports_of(tree)} for name, tree in trees()}
        while draws:
            free = [name for name in draws if not draws[name] & set(draws)]
            self.assertNotEqual(free, [], "files in a ring: " + " ".join(sorted(draws)))
            for name in free:
                draws.pop(name)

    def test_each_name_is_bound_once(self):
        for name, tree in trees():
            tops = top_names(tree) + [drawn for module, drawn in imports_of(tree)]
            self.assertEqual(len(tops), len(set(tops)), name)
            self.assertEqual(inner_names(tree) & set(tops), set(), name)

    def test_a_row_by_itself_is_a_call(self):
        for name, tree in trees():
            for node in ast.walk(tree):
                if isinstance(node, ast.Expr) and node != tree.body[0]:
                    self.assertIsInstance(node.value, ast.Call, self.where(name, node))

    def test_functions_and_classes(self):
        for name, tree in trees():
            for node in ast.walk(tree):
                where = self.where(name, node)
                if isinstance(node, ast.FunctionDef):
                    self.assertLessEqual(node.end_lineno - node.lineno + 1, 40, where)
                    self.assertEqual(node.decorator_list, [], where)
                    parts = node.args
                    self.assertEqual((parts.vararg, parts.kwarg, parts.kwonlyargs, parts.posonlyargs),
                                     (None, None, [], []), where)
                if isinstance(node, ast.ClassDef):
                    self.assertIn(node, tree.body, where)
                    self.assertEqual((node.decorator_list, node.keywords), ([], []), where)
                    self.assertLessEqual(len(node.bases), 1, where)
                    for part in node.body:
                        self.assertIsInstance(part, (ast.FunctionDef, ast.Pass), where)

    def test_names(self):
        for name, tree in trees():
            for bound in bound_names(tree):
                if bound not in DOUBLE_UNDERSCORES:
                    self.assertRegex(bound, r"^[A-Za-z][A-Za-z0-9_]*$", name)
                    self.assertFalse(hasattr(builtins, bound), f"{name}: {bound}")
            for node in ast.walk(tree):
                if isinstance(node, ast.Name) and hasattr(builtins, node.id):
                    self.assertIn(node.id, OWN_OF_PYTHON, self.where(name, node))

    def test_methods(self):
        free = METHODS | own_methods()
        for name, tree in trees():
            for node in ast.walk(tree):
                if isinstance(node, ast.Call) and isinstance(node.func, ast.Attribute):
                    self.assertIn(node.func.attr, free, self.where(name, node))

    def test_names_that_are_not_used(self):
        for name, tree in trees():
            for node in ast.walk(tree):
                if isinstance(node, ast.Name):
                    self.assertNotIn(node.id, NOWHERE, self.where(name, node))
                if isinstance(node, ast.Attribute):
                    self.assertNotIn(node.attr, NOWHERE | {"format", "format_map"}, self.where(name, node))

    def test_values_of_objects(self):
        values = own_values()
        self.assertEqual(values & own_methods(), set())
        for value in values:
            self.assertRegex(value, r"^[A-Za-z][A-Za-z0-9_]*$")
            self.assertTrue(value in FREE_VALUES or not pythons_own(value), value)
            self.assertNotIn(value, NO_VALUES)
        for method in own_methods() - DOUBLE_UNDERSCORES:
            self.assertTrue(method in METHODS | {"add", "discard"} or not pythons_own(method), method)

    def test_an_attribute_is_an_own_value_or_a_method_that_is_called(self):
        for name, tree in trees():
            parents = parents_of(tree)
            for node in ast.walk(tree):
                if isinstance(node, ast.Attribute) and node.attr not in own_values():
                    self.assertIsInstance(parents[node], ast.Call, self.where(name, node))
                    self.assertIs(parents[node].func, node, self.where(name, node))

    def test_keywords(self):
        for name, tree in trees():
            for node in ast.walk(tree):
                if isinstance(node, ast.Call):
                    told = {keyword.arg for keyword in node.keywords}
                    self.assertLessEqual(told, KEYWORDS.get(called_name(node), set()), self.where(name, node))

    def test_pythons_own_functions_are_called_where_they_stand(self):
        for name, tree in trees():
            parents = parents_of(tree)
            for node in ast.walk(tree):
                if isinstance(node, ast.Name) and node.id in OWN_OF_PYTHON:
                    parent = parents[node]
                    is_called = isinstance(parent, ast.Call) and parent.func is node
                    is_kind = called_name(parent) == "isinstance" or isinstance(parent, (ast.Tuple, ast.ClassDef))
                    self.assertTrue(is_called or is_kind, self.where(name, node))

    def test_walked_at_once(self):
        for name, tree in trees():
            parents = parents_of(tree)
            for node in ast.walk(tree):
                if called_name(node) in WALKS or called_method(node) in WALKING_METHODS:
                    self.assertTrue(walked_on_the_spot(node, parents[node]), self.where(name, node))

    def test_what_a_loop_walks_is_not_changed_in_it(self):
        for name, tree in trees():
            for loop in [node for node in ast.walk(tree) if isinstance(node, ast.For)]:
                parts = [part for part in ast.walk(loop.iter) if isinstance(part, (ast.Name, ast.Attribute))]
                walked = {ast.unparse(part) for part in parts}
                for node in [part for step in loop.body for part in ast.walk(step)]:
                    if called_method(node) in CHANGES:
                        self.assertNotIn(ast.unparse(node.func.value), walked, self.where(name, node))
                    if isinstance(node, ast.Subscript) and isinstance(node.ctx, ast.Store):
                        self.assertNotIn(ast.unparse(node.value), walked, self.where(name, node))

    def test_sets_are_not_kept(self):
        for name, tree in trees():
            parents = parents_of(tree)
            for node in ast.walk(tree):
                if called_name(node) in ["set", "frozenset"]:
                    parent = parents[node]
                    while isinstance(parent, ast.BinOp):
                        parent = parents[parent]
                    self.assertTrue(called_name(parent) in ["sorted", "len"] or isinstance(parent, ast.Compare),
                                    self.where(name, node))


if __name__ == "__main__":
    unittest.main()

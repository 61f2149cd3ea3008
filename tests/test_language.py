"""The rules of ../shared/LANGUAGE.md that a walk over the code can see. Not all of them are here."""

import ast
import builtins
import pathlib
import re
import unittest

from tests.test_interface import FILES, calls

PACKAGE = pathlib.Path(__file__).resolve().parent.parent / "allislands"
BUILTINS = set("""len range enumerate zip min max sum abs sorted reversed int str bool list tuple dict set isinstance
    ord repr any all divmod ValueError TypeError KeyError IndexError LookupError ZeroDivisionError StopIteration
    NotImplemented map iter next""".split())
METHODS = set("""append clear copy count endswith extend find get index insert isalnum isalpha isdigit islower isspace
    isupper items join keys ljust lower lstrip partition pop remove replace reverse rfind rjust rpartition rsplit
    rstrip setdefault split splitlines startswith strip update upper values zfill bit_length add discard""".split())
LIBRARY = {"math": {"gcd", "lcm", "isqrt", "comb", "perm", "factorial"},
           "heapq": {"heappush", "heappop", "heapify", "heapreplace", "heappushpop"}}
NOT_NAMES = set("""register mro elements open input law version_info with_traceback add_note attrgetter breakpoint
    builtins compile copyright credits delattr dir eval exec exit gc getattr globals hasattr help id importlib license
    locals methodcaller os quit setattr super type vars sys""".split())
NOT_WORDS = re.compile(r"\b(typing|typing_extensions|enum|Enum|IntEnum|StrEnum|Flag|IntFlag|Generic|Protocol|ABC|ABCMeta|"
                       r"namedtuple|NamedTuple|TypedDict|TYPE_CHECKING|abstractmethod)\b|dataclass|overload|contextmanager")
STATEMENTS = (ast.FunctionDef, ast.ClassDef, ast.ImportFrom, ast.Assign, ast.AugAssign, ast.Expr, ast.If, ast.For,
              ast.While, ast.Return, ast.Break, ast.Continue, ast.Pass, ast.Raise, ast.Assert, ast.Delete, ast.Try)


def sources():
    for path in sorted(PACKAGE.rglob("*.py")):
        yield path, path.read_text(encoding="utf-8")


def trees():
    for path, text in sources():
        yield path.name, ast.parse(text)


def bound_in(function):
    """All names that a function binds: parameters, targets, caught errors."""
    given = function.args
    names = {a.arg for a in given.posonlyargs + given.args + given.kwonlyargs}
    names |= {node.id for node in ast.walk(function) if isinstance(node, ast.Name) and isinstance(node.ctx, ast.Store)}
    return names | {node.name for node in ast.walk(function) if isinstance(node, ast.ExceptHandler) and node.name}


def is_set(node):
    called = isinstance(node, ast.Call) and isinstance(node.func, ast.Name) and node.func.id == "set"
    return called or isinstance(node, (ast.Set, ast.SetComp))


class Language(unittest.TestCase):

    def each(self, kind):
        for name, tree in trees():
            for node in ast.walk(tree):
                if isinstance(node, kind):
                    yield f"{name}:{getattr(node, 'lineno', 0)}", node

    def test_files_and_sizes(self):
        for path in PACKAGE.rglob("*"):
            self.assertTrue(path.suffix == ".py" or "__pycache__" in path.parts, path)
        for path, text in sources():
            self.assertRegex(path.name, r"^([a-z][a-z0-9_]*|__init__)\.py$")
            lines = text.split("\n")
            self.assertLessEqual(len(lines), 400, path)
            for at, line in enumerate(lines):
                self.assertLessEqual(len(line), 120, f"{path}:{at + 1}")
                self.assertRegex(line, r"^[ -~]*$", f"{path}:{at + 1}")
            self.assertIsNone(NOT_WORDS.search(text), path)
        for where, node in self.each(ast.FunctionDef):
            self.assertLessEqual(node.end_lineno - node.lineno + 1, 40, where)

    def test_imports(self):
        own, edges = {name[:-3] for name, _ in trees()}, {}
        for where, node in self.each((ast.Import, ast.ImportFrom)):
            self.assertIsInstance(node, ast.ImportFrom, where)
            for alias in node.names:
                self.assertIsNone(alias.asname, where)
                if node.module in LIBRARY:
                    self.assertIn(alias.name, LIBRARY[node.module], where)
            if node.module not in LIBRARY:
                self.assertEqual(node.level, 0, where)
                package, file = node.module.split(".")
                self.assertTrue(package == "allislands" and file in own, where)
                edges.setdefault(where.split(".")[0], set()).add(file)
        left = dict(edges)
        while left:
            free = [name for name in left if not left[name] & set(left)]
            self.assertTrue(free, f"files that import from each other: {sorted(left)}")
            for name in free:
                del left[name]

    def test_names_come_from_the_file_that_defines_them(self):
        defined = {name[:-3]: {getattr(node, "name", None) or node.targets[0].id for node in tree.body
                               if isinstance(node, (ast.FunctionDef, ast.ClassDef, ast.Assign))}
                   for name, tree in trees()}
        for where, node in self.each(ast.ImportFrom):
            if node.module not in LIBRARY:
                for alias in node.names:
                    self.assertIn(alias.name, defined[node.module.split(".")[1]], where)

    def test_all_that_is_defined_or_imported_is_used(self):
        used, interface = {}, {word for told in FILES.values() for word, rest in calls(told)}
        for name, tree in trees():
            words = {node.id for node in ast.walk(tree) if isinstance(node, ast.Name) and isinstance(node.ctx, ast.Load)}
            taken = {alias.name for node in tree.body if isinstance(node, ast.ImportFrom) for alias in node.names}
            self.assertFalse(taken - words, name)
            used[name] = words | taken
        for name, tree in trees():
            for node in tree.body:
                if isinstance(node, ast.Assign) and node.targets[0].id not in ("TURNS", "TELLINGS"):
                    self.assertTrue(any(node.targets[0].id in words for words in used.values()), f"{name}:{node.lineno}")
                if isinstance(node, ast.FunctionDef) and node.name not in interface:
                    self.assertTrue(any(node.name in words for words in used.values()), f"{name}:{node.lineno}")

    def test_statements(self):
        for where, node in self.each(ast.stmt):
            self.assertIsInstance(node, STATEMENTS, where)
            self.assertFalse(getattr(node, "decorator_list", []), where)
        for where, node in self.each((ast.Await, ast.GeneratorExp, ast.Yield, ast.YieldFrom)):
            self.fail(f"{where}: {node}")
        for where, node in self.each(ast.ExceptHandler):
            self.assertIsNotNone(node.type, where)

    def test_values(self):
        for where, node in self.each(ast.Constant):
            self.assertNotIsInstance(node.value, (float, complex), where)
            if isinstance(node.value, str):
                self.assertFalse("{" in node.value or node.value.startswith("__"), where)
        for where, node in self.each(ast.BinOp):
            self.assertNotIsInstance(node.op, (ast.Div, ast.MatMult), where)
            if isinstance(node.op, ast.Pow):
                self.assertTrue(isinstance(node.right, ast.Constant) and 0 <= node.right.value <= 64, where)
        for where, node in self.each(ast.Compare):
            for op, side in zip(node.ops, node.comparators):
                if isinstance(op, (ast.Is, ast.IsNot)):
                    self.assertTrue(isinstance(side, ast.Constant) and side.value in (None, True, False), where)

    def test_sets_are_not_kept(self):
        for name, tree in trees():
            above = {child: node for node in ast.walk(tree) for child in ast.iter_child_nodes(node)}
            for node in ast.walk(tree):
                if is_set(node):
                    held = above[node]
                    while isinstance(held, ast.BinOp):
                        held = above[held]
                    good = isinstance(held, ast.Compare) or isinstance(held, ast.Call) and held.func.id in ("sorted", "len")
                    self.assertTrue(good or isinstance(held, ast.Assign), f"{name}:{node.lineno}")

    def test_names(self):
        for name, tree in trees():
            taken = {alias.asname or alias.name for node in tree.body if isinstance(node, ast.ImportFrom)
                     for alias in node.names}
            classes = {node.name for node in tree.body if isinstance(node, ast.ClassDef)}
            made = [node.name for node in tree.body if isinstance(node, (ast.FunctionDef, ast.ClassDef))]
            made += [node.targets[0].id for node in tree.body if isinstance(node, ast.Assign)]
            self.assertEqual(len(made), len(set(made)), name)
            self.assertFalse(taken & set(made), name)
            for function in [node for node in ast.walk(tree) if isinstance(node, ast.FunctionDef)]:
                bound = bound_in(function)
                wrong = bound & (taken | set(made) | classes | set(dir(builtins)) | NOT_NAMES)
                self.assertFalse(wrong, f"{name}:{function.lineno}")
                for node in ast.walk(function):
                    if isinstance(node, ast.Name) and node.id not in bound | taken | set(made):
                        self.assertIn(node.id, BUILTINS, f"{name}:{node.lineno}")
            for word in made:
                self.assertRegex(word, r"^_?[A-Za-z][A-Za-z0-9_]*$", name)
                self.assertNotIn(word, set(dir(builtins)) | NOT_NAMES, name)

    def test_methods_of_builtin_values(self):
        own = {method.name for where, node in self.each(ast.ClassDef) for method in node.body
               if isinstance(method, ast.FunctionDef)}
        for where, node in self.each(ast.Call):
            if isinstance(node.func, ast.Attribute):
                self.assertIn(node.func.attr, METHODS | own, where)
                self.assertFalse(node.keywords, where)

    def test_classes(self):
        for where, node in self.each(ast.ClassDef):
            methods = [method.name for method in node.body if isinstance(method, ast.FunctionDef)]
            self.assertEqual(len(methods), len(set(methods)), where)
            stored = {part.attr for part in ast.walk(node)
                      if isinstance(part, ast.Attribute) and isinstance(part.ctx, ast.Store)}
            self.assertFalse(stored & set(methods), where)
            for name in stored | set(methods):
                self.assertRegex(name, r"^(_?[a-z][a-z_]*|__(init|eq|str|len|iter)__)$", where)
            for method in node.body[1:]:
                self.assertIsInstance(method, ast.FunctionDef, where)
        for where, node in self.each(ast.FunctionDef):
            if node.name in ("__len__", "__iter__", "__eq__", "__str__"):
                self.assertEqual(len(node.body), 1, where)
                self.assertIsInstance(node.body[0], ast.Return, where)

    def test_what_stands_at_module_level(self):
        for name, tree in trees():
            for node in tree.body:
                if isinstance(node, ast.Assign):
                    self.assertFalse([part for part in ast.walk(node.value) if isinstance(part, (ast.Name, ast.Call))],
                                     f"{name}:{node.lineno}")


if __name__ == "__main__":
    unittest.main()

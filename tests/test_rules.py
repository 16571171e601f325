"""The rules for the package's files that a program can check by itself."""

import ast
import builtins
import pathlib
import unittest

PACKAGE = pathlib.Path(__file__).resolve().parent.parent / "circlekeep"
METHODS = set("""append clear copy count endswith extend find get index insert isalnum isalpha isdigit islower isspace isupper items
join keys ljust lower lstrip partition pop remove replace reverse rfind rjust rpartition rsplit rstrip setdefault split splitlines
startswith strip update upper values zfill bit_length isascii add discard""".split())
CALLED = set("""len range enumerate zip min max sum abs sorted reversed int str bool list tuple dict set isinstance ord repr any all
divmod iter next Exception classmethod""".split())
BARRED = set("register mro elements open input law version_info with_traceback add_note type typing enum".split())
# Rows are iterated over and have a length, so nothing of itertools may be used.
LIBRARY = {"heapq": {"heappush", "heappop", "heapify", "heapreplace", "heappushpop"},
           "math": {"gcd", "lcm", "isqrt", "comb", "perm", "factorial"}}
DUNDERS = {"__init__", "__eq__", "__repr__", "__str__", "__len__", "__iter__", "__add__"}
NODES = (ast.Global, ast.AsyncFunctionDef, ast.Await, ast.Import, ast.Div)


def trees():
    """The package's files with their syntax trees."""
    return [(path, ast.parse(path.read_text(encoding="utf-8"))) for path in sorted(PACKAGE.glob("*.py"))]


def own_names():
    """What the package defines: functions and classes by file, methods, attributes."""
    defined = {}
    methods = set()
    attributes = set()
    for path, tree in trees():
        defined[path.stem] = {node.name for node in tree.body if isinstance(node, (ast.FunctionDef, ast.ClassDef))}
        defined[path.stem] |= {node.targets[0].id for node in tree.body if isinstance(node, ast.Assign)}
        for node in ast.walk(tree):
            if isinstance(node, ast.ClassDef):
                methods |= {part.name for part in node.body if isinstance(part, ast.FunctionDef)}
            if isinstance(node, ast.Attribute) and isinstance(node.ctx, ast.Store):
                attributes.add(node.attr)
    return defined, methods, attributes


def called(node):
    """The name of what a node calls, None if it calls nothing."""
    if not isinstance(node, ast.Call):
        return None
    return node.func.attr if isinstance(node.func, ast.Attribute) else node.func.id


class RulesTest(unittest.TestCase):

    def test_files(self):
        for path in PACKAGE.iterdir():
            if path.name != "__pycache__":
                self.assertRegex(path.name, r"^[a-z_][a-z0-9_]*\.py$")
        for path, _ in trees():
            text = path.read_text(encoding="utf-8")
            lines = text.split("\n")
            self.assertLess(len(lines), 400, path)
            self.assertLessEqual(max(map(len, lines)), 120, path)
            self.assertTrue(all(" " <= sign <= "~" or sign == "\n" for sign in text), path)

    def test_functions(self):
        for path, tree in trees():
            for node in ast.walk(tree):
                if isinstance(node, ast.FunctionDef):
                    self.assertLessEqual(node.end_lineno - node.lineno + 1, 40, (path, node.name))
                    self.assertIsNotNone(ast.get_docstring(node) or node.name.startswith("__"), (path, node.name))
                    if node.name.startswith("__"):
                        self.assertIn(node.name, DUNDERS)
                self.assertNotIsInstance(node, NODES, (path, getattr(node, "lineno", None)))

    def test_imports(self):
        defined, _, _ = own_names()
        after = {}
        for path, tree in trees():
            after[path.stem] = set()
            for node in tree.body:
                if isinstance(node, ast.ImportFrom):
                    names = {alias.name for alias in node.names}
                    self.assertEqual({alias.asname for alias in node.names}, {None})
                    package, _, module = node.module.partition(".")
                    if package == "circlekeep":
                        self.assertLessEqual(names, defined[module], (path, module))
                        after[path.stem].add(module)
                    else:
                        self.assertLessEqual(names, LIBRARY[node.module], path)
        while after:
            free = [stem for stem in after if not after[stem] & set(after)]
            self.assertTrue(free, f"files import from each other: {sorted(after)}")
            for stem in free:
                del after[stem]

    def test_names(self):
        for path, tree in trees():
            taken = {alias.name for node in tree.body if isinstance(node, ast.ImportFrom) for alias in node.names}
            taken |= {node.name for node in tree.body if isinstance(node, ast.ClassDef)}
            for node in ast.walk(tree):
                if isinstance(node, ast.Name) and isinstance(node.ctx, ast.Store):
                    name = node.id
                elif isinstance(node, ast.arg):
                    name = node.arg
                elif isinstance(node, ast.Attribute):
                    self.assertNotIn(node.attr, BARRED, (path, node.lineno))
                    continue
                else:
                    continue
                self.assertNotIn(name, taken | BARRED | set(dir(builtins)), (path, node.lineno))

    def test_calls(self):
        _, methods, attributes = own_names()
        for path, tree in trees():
            for node in ast.walk(tree):
                if isinstance(node, ast.Attribute) and isinstance(node.ctx, ast.Load):
                    self.assertIn(node.attr, METHODS | methods | attributes, (path, node.lineno))
                if isinstance(node, ast.Name) and node.id in dir(builtins):
                    self.assertIn(node.id, CALLED, (path, node.lineno))
                if isinstance(node, ast.Constant) and isinstance(node.value, str):
                    self.assertNotIn("%", node.value, (path, node.lineno))
                if isinstance(node, ast.Compare):
                    for sign, side in zip(node.ops, node.comparators):
                        if isinstance(sign, (ast.Is, ast.IsNot)):
                            self.assertTrue(isinstance(side, ast.Constant), (path, node.lineno))
        self.assertFalse(methods & attributes)

    def test_sets_and_generators(self):
        for path, tree in trees():
            for node in ast.walk(tree):
                for part in ast.iter_child_nodes(node):
                    place = (path, getattr(part, "lineno", None))
                    if isinstance(part, ast.Set):
                        self.assertFalse([item for item in part.elts if isinstance(item, ast.Starred)], place)
                    if isinstance(part, (ast.Set, ast.SetComp)) or called(part) == "set":
                        self.assertTrue(called(node) in ("sorted", "len") or isinstance(node, (ast.Compare, ast.Assign)),
                                        place)
                    if isinstance(part, ast.GeneratorExp):
                        self.assertIn(called(node), ("list", "tuple", "dict", "join"), place)


if __name__ == "__main__":
    unittest.main()

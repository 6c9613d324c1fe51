"""What can be seen of the rules of the language by reading the files of the package."""

import ast
import builtins
import pathlib
import re
import unittest

PACKAGE = pathlib.Path(__file__).parent.parent / "halfring"
FILES = sorted(PACKAGE.rglob("*.py"))
LIBRARY = {"heapq": {"heappush", "heappop"}, "math": {"gcd"}, "itertools": {"product", "combinations", "permutations"}}
BUILTINS = set("""len range enumerate zip min max sum abs sorted reversed int str bool list tuple dict set isinstance
    ord repr any all divmod ValueError LookupError KeyError""".split())
METHODS = set("""append clear copy count endswith extend find get index insert isalnum isalpha isdigit islower isspace
    isupper items join keys ljust lower lstrip partition pop remove replace reverse rfind rjust rpartition rsplit
    rstrip setdefault split splitlines startswith strip update upper values zfill removeprefix removesuffix""".split())
STATEMENTS = (ast.Assign, ast.AugAssign, ast.If, ast.While, ast.For, ast.Return, ast.Break, ast.Continue, ast.Pass,
              ast.Raise, ast.Delete, ast.Try, ast.Expr, ast.FunctionDef, ast.ClassDef, ast.ImportFrom)
BARRED = set("register mro elements open input law version_info with_traceback add_note".split())
BARRED_WORDS = set("""type typing typing_extensions enum Enum IntEnum StrEnum Flag IntFlag Generic Protocol ABC ABCMeta
    namedtuple NamedTuple TypedDict TYPE_CHECKING abstractmethod""".split())
KEYWORDS = {"sorted": {"key", "reverse"}, "min": {"key", "default"}, "max": {"key", "default"}, "sum": {"start"},
            "enumerate": {"start"}, "zip": {"strict"}}
NAME = re.compile(r"_?[A-Za-z][A-Za-z0-9_]*|_|__init__|__eq__|__len__|__repr__|__str__")


def tree_of(path):
    """The tree of a file, each node with the one above it."""
    tree = ast.parse(path.read_text())
    for node in ast.walk(tree):
        for child in ast.iter_child_nodes(node):
            child.above = node
    return tree


def nodes(path, *kinds):
    """All nodes of these kinds of a file."""
    return [node for node in ast.walk(tree_of(path)) if isinstance(node, kinds)]


def top_names(tree):
    """The names that a file binds at its top, with how often."""
    names = []
    for node in tree.body:
        if isinstance(node, (ast.FunctionDef, ast.ClassDef)):
            names.append(node.name)
        elif isinstance(node, ast.ImportFrom):
            names.extend(alias.asname or alias.name for alias in node.names)
        elif isinstance(node, ast.Assign):
            names.extend(target.id for target in node.targets)
    return names


def bound_in(function):
    """The parameters and local names of a function."""
    names = [arg.arg for arg in ast.walk(function) if isinstance(arg, ast.arg)]
    names += [node.id for node in ast.walk(function) if isinstance(node, ast.Name)
              and isinstance(node.ctx, (ast.Store, ast.Del))]
    return names


class TestFiles(unittest.TestCase):
    def test_the_folder(self):
        for path in PACKAGE.rglob("*"):
            if "__pycache__" not in path.parts:
                self.assertEqual(path.suffix, ".py")
                self.assertRegex(path.stem, r"^([a-z][a-z0-9_]*|__init__|__main__)$")
                self.assertNotIn(path.stem, set(dir(builtins)) | BARRED_WORDS)
        self.assertIn(PACKAGE / "__init__.py", FILES)
        self.assertLessEqual(len(FILES), 100)

    def test_sizes_and_signs(self):
        for path in FILES:
            text = path.read_text(encoding="ascii")
            self.assertLessEqual(len(text.splitlines()), 399, path)
            for line in text.splitlines():
                self.assertLessEqual(len(line), 120, path)
                self.assertTrue(all(" " <= sign <= "~" for sign in line), path)
            for node in nodes(path, ast.FunctionDef):
                self.assertLessEqual(node.end_lineno - node.lineno + 1, 40, (path, node.name))

    def test_imports(self):
        reaches = {}
        for path in FILES:
            reaches[path.stem] = []
            for node in nodes(path, ast.Import, ast.ImportFrom):
                self.assertIsInstance(node, ast.ImportFrom, path)
                self.assertEqual(node.level, 0)
                self.assertTrue(all(alias.asname is None for alias in node.names))
                if node.module in LIBRARY:
                    self.assertLessEqual({alias.name for alias in node.names}, LIBRARY[node.module])
                    continue
                self.assertRegex(node.module, r"^halfring\.[a-z]+$")
                stem = node.module.split(".")[1]
                defined = top_names(tree_of(PACKAGE / (stem + ".py")))
                inner = nodes(PACKAGE / (stem + ".py"), ast.ImportFrom)
                imported = [alias.name for own in inner for alias in own.names]
                for alias in node.names:
                    self.assertIn(alias.name, defined)
                    self.assertNotIn(alias.name, imported)
                reaches[path.stem].append(stem)
        done = []
        while len(done) < len(reaches):
            ready = [stem for stem in reaches if stem not in done and all(own in done for own in reaches[stem])]
            self.assertNotEqual(ready, [], "files import from each other")
            done.extend(ready)

    def test_each_import_is_used(self):
        for path in FILES:
            used = {node.id for node in nodes(path, ast.Name)}
            for node in nodes(path, ast.ImportFrom):
                self.assertLessEqual({alias.name for alias in node.names}, used, path)

    def test_the_top_of_a_file(self):
        for path in FILES:
            tree = tree_of(path)
            self.assertIsNotNone(ast.get_docstring(tree), path)
            self.assertEqual(len(top_names(tree)), len(set(top_names(tree))), path)
            for node in tree.body[1:]:
                self.assertIsInstance(node, (ast.ImportFrom, ast.FunctionDef, ast.ClassDef, ast.Assign), path)
                if isinstance(node, ast.Assign):
                    self.assertIsInstance(ast.literal_eval(node.value), (int, str, tuple))
                    self.assertEqual(len(node.targets), 1)


class TestNames(unittest.TestCase):
    def test_words(self):
        for path in FILES:
            for node in ast.walk(tree_of(path)):
                for name in (getattr(node, "id", None), getattr(node, "attr", None), getattr(node, "arg", None),
                             getattr(node, "name", None)):
                    if name is not None:
                        self.assertIsNotNone(NAME.fullmatch(name), (path, name))
                        self.assertNotIn(name, BARRED | BARRED_WORDS)
                        self.assertFalse(name.startswith(("_wall", "_record", "_outside", "_written")), name)
                if isinstance(node, ast.Constant) and isinstance(node.value, str):
                    self.assertNotIn("%", node.value)
                    self.assertFalse(node.value.endswith(("._", ".__")))

    def test_what_is_bound(self):
        for path in FILES:
            tree = tree_of(path)
            taken = [alias.name for node in nodes(path, ast.ImportFrom) for alias in node.names]
            taken += [node.name for node in nodes(path, ast.ClassDef)]
            for name in top_names(tree):
                self.assertNotIn(name, dir(builtins), path)
            for function in nodes(path, ast.FunctionDef):
                for name in bound_in(function):
                    self.assertNotIn(name, taken, (path, function.name))
                    self.assertNotIn(name, dir(builtins), (path, function.name))

    def test_what_is_read_is_own_or_a_plain_builtin(self):
        for path in FILES:
            own = set(top_names(tree_of(path)))
            for function in nodes(path, ast.FunctionDef):
                known = own | BUILTINS | set(bound_in(function))
                for node in ast.walk(function):
                    if isinstance(node, ast.Name) and isinstance(node.ctx, ast.Load):
                        self.assertIn(node.id, known, (path, function.name))
                        self.assertNotEqual(node.id, "_")


class TestCode(unittest.TestCase):
    def test_statements(self):
        for path in FILES:
            for node in nodes(path, ast.stmt):
                self.assertIsInstance(node, STATEMENTS, (path, node.lineno))
            for node in nodes(path, ast.FunctionDef):
                self.assertEqual(node.decorator_list, [])
                self.assertIsNone(node.returns)
                self.assertTrue(all(arg.annotation is None for arg in ast.walk(node) if isinstance(arg, ast.arg)))
                self.assertIsNotNone(ast.get_docstring(node) if node.name != "__init__" else "", (path, node.name))
            for node in nodes(path, ast.Raise):
                self.assertTrue(node.exc is None or isinstance(node.exc, ast.Call))
            for node in nodes(path, ast.ExceptHandler):
                self.assertIsInstance(node.type, ast.Name)

    def test_expressions(self):
        for path in FILES:
            for node in ast.walk(tree_of(path)):
                where = (path, getattr(node, "lineno", None))
                self.assertNotIsInstance(node, (ast.Div, ast.MatMult, ast.GeneratorExp, ast.Await, ast.Yield), where)
                if isinstance(node, ast.Constant):
                    self.assertNotIsInstance(node.value, (float, complex, bytes), where)
                if isinstance(node, ast.Compare) and any(isinstance(op, (ast.Is, ast.IsNot)) for op in node.ops):
                    self.assertIsInstance(node.comparators[0], ast.Constant, where)
                if isinstance(node, (ast.Set, ast.SetComp)) or getattr(getattr(node, "func", None), "id", "") == "set":
                    self.assertTrue(self.stands_as_a_set_may(node), where)

    def stands_as_a_set_may(self, node):
        """Whether a set is sorted, counted, asked by in, compared, or kept by a plain name."""
        above = node.above
        if isinstance(above, ast.Call):
            return getattr(above.func, "id", "") in ("sorted", "len")
        return isinstance(above, (ast.Compare, ast.Assign))

    def test_calls(self):
        own = {node.name for path in FILES for node in nodes(path, ast.FunctionDef)}
        for path in FILES:
            for node in nodes(path, ast.Call):
                where = (path, node.lineno)
                if isinstance(node.func, ast.Attribute):
                    base = getattr(node.func.value, "id", "")
                    if node.func.attr == "__init__":
                        self.assertIn(base, ("LookupError", "ValueError"), where)
                    else:
                        self.assertIn(node.func.attr, METHODS | own, where)
                        self.assertEqual(node.keywords, [], where)
                elif node.func.id in BUILTINS:
                    self.assertLessEqual({word.arg for word in node.keywords}, KEYWORDS.get(node.func.id, set()), where)


if __name__ == "__main__":
    unittest.main()

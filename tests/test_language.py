"""Those rules of LANGUAGE.md that can be seen in the files of the package."""

import ast
import builtins
import re
import unittest
from pathlib import Path

PACKAGE = Path(__file__).resolve().parent.parent / "munchbehind"
FILES = sorted(PACKAGE.rglob("*.py"))
LIBRARY = {
    "heapq": "heappush heappop heapify heapreplace heappushpop",
    "math": "gcd lcm isqrt comb perm factorial",
    "itertools": "product combinations permutations chain accumulate pairwise islice zip_longest",
    "collections": "defaultdict deque",
}
BUILTINS = set(
    "len range enumerate zip min max sum abs sorted reversed int str bool bytes list tuple dict set frozenset "
    "isinstance ord repr any all divmod pow getattr hasattr setattr iter next map type object property "
    "staticmethod classmethod super Exception ValueError TypeError KeyError IndexError LookupError "
    "ZeroDivisionError ArithmeticError OverflowError RuntimeError NotImplementedError AttributeError "
    "StopIteration NotImplemented".split()
)
METHODS = set(
    "append clear copy count endswith extend find get index insert isalnum isalpha isdigit islower isspace "
    "isupper items join keys ljust lower lstrip partition pop remove replace reverse rfind rjust rpartition "
    "rsplit rstrip setdefault split splitlines startswith strip update upper values zfill bit_length add "
    "discard sort isascii isdecimal removeprefix removesuffix popleft".split()
)
BARRED_NODES = (
    ast.AsyncFunctionDef, ast.AsyncFor, ast.AsyncWith, ast.Await, ast.Global, ast.Import, ast.GeneratorExp, ast.Div,
    ast.MatMult, ast.TryStar, ast.MatchMapping,
)
BARRED_WORDS = set(
    "register mro elements open input law version_info with_traceback add_note eval exec compile vars globals locals "
    "hash id dir help exit quit os gc sys typing enum dataclass namedtuple".split()
)
SPECIAL = {
    f"__{word}__" for word in (
        "init eq repr str len enter exit call iter lt le gt ge ne add sub mul floordiv mod pow and or xor lshift "
        "rshift iadd isub imul neg pos invert abs bool contains getitem setitem"
    ).split()
}


def text_of(path):
    return path.read_text(encoding="utf-8")


def tree_of(path):
    return ast.parse(text_of(path))


def nodes(path, *kinds):
    return [node for node in ast.walk(tree_of(path)) if isinstance(node, kinds)]


def bound_names(path):
    """All names that a file gives to something."""
    names = [node.name for node in nodes(path, ast.FunctionDef, ast.ClassDef)]
    names += [node.arg for node in nodes(path, ast.arg)]
    names += [node.id for node in nodes(path, ast.Name) if not isinstance(node.ctx, ast.Load)]
    return names + [alias.asname or alias.name for node in nodes(path, ast.ImportFrom) for alias in node.names]


def defined(path):
    """The names that a file defines at its module level."""
    names = []
    for node in tree_of(path).body:
        if isinstance(node, (ast.FunctionDef, ast.ClassDef)):
            names.append(node.name)
        if isinstance(node, ast.Assign):
            names += [target.id for target in node.targets]
    return names


class LanguageTest(unittest.TestCase):
    def test_folders(self):
        for folder in [PACKAGE, *[path for path in PACKAGE.rglob("*") if path.is_dir()]]:
            if folder.name != "__pycache__":
                self.assertTrue((folder / "__init__.py").is_file())
        others = [path for path in PACKAGE.rglob("*") if path.is_file() and path.suffix not in (".py", ".pyc")]
        self.assertEqual(others, [])

    def test_signs_and_lines(self):
        for path in FILES:
            with self.subTest(str(path.relative_to(PACKAGE))):
                text = text_of(path)
                self.assertTrue(all(sign == "\n" or " " <= sign <= "~" for sign in text))
                self.assertTrue(all(len(line) <= 120 for line in text.split("\n")))
                self.assertLessEqual(len(text.splitlines()), 399)

    def test_functions_are_short(self):
        for path in FILES:
            with self.subTest(str(path.relative_to(PACKAGE))):
                for node in nodes(path, ast.FunctionDef):
                    self.assertLessEqual(node.end_lineno - node.lineno + 1, 40, node.name)

    def test_imports(self):
        for path in FILES:
            with self.subTest(str(path.relative_to(PACKAGE))):
                for node in nodes(path, ast.ImportFrom):
                    self.assertEqual(node.level, 0)
                    names = [alias.name for alias in node.names]
                    if node.module in LIBRARY:
                        self.assertEqual(set(names) - set(LIBRARY[node.module].split()), set())
                    else:
                        told = PACKAGE.parent / (node.module.replace(".", "/") + ".py")
                        self.assertEqual(set(names) - set(defined(told)), set())

    def test_statements_and_values(self):
        for path in FILES:
            with self.subTest(str(path.relative_to(PACKAGE))):
                self.assertEqual(nodes(path, *BARRED_NODES), [])
                for node in nodes(path, ast.Constant):
                    self.assertNotIsInstance(node.value, (float, complex))
                    self.assertFalse(isinstance(node.value, int) and abs(node.value) >= 10 ** 900)
                    self.assertFalse(isinstance(node.value, str) and "%" in node.value)
                for node in nodes(path, ast.BinOp):
                    if isinstance(node.op, ast.Pow):
                        self.assertIsInstance(node.right, ast.Constant)

    def test_decorators(self):
        for path in FILES:
            with self.subTest(str(path.relative_to(PACKAGE))):
                for node in nodes(path, ast.FunctionDef, ast.ClassDef):
                    told = [ast.unparse(decorator).split(".")[-1] for decorator in node.decorator_list]
                    self.assertIn(told, ([], ["property"], ["setter"], ["staticmethod"], ["classmethod"]))

    def test_builtins(self):
        # Examples that are shown leave their last value under this name.
        known = set(dir(builtins)) - {"_"}
        for path in FILES:
            with self.subTest(str(path.relative_to(PACKAGE))):
                read = {node.id for node in nodes(path, ast.Name)} & known
                self.assertEqual(read - BUILTINS, set())
                classes = nodes(path, ast.ClassDef)
                methods = {part.name for made in classes for part in made.body if isinstance(part, ast.FunctionDef)}
                self.assertEqual(set(bound_names(path)) & known - methods, set())

    def test_names(self):
        for path in FILES:
            with self.subTest(str(path.relative_to(PACKAGE))):
                names = set(bound_names(path)) | {node.attr for node in nodes(path, ast.Attribute)}
                self.assertEqual(names & BARRED_WORDS, set())
                self.assertEqual({name for name in names if name.startswith("__")} - SPECIAL, set())

    def test_methods(self):
        own = {node.name for path in FILES for node in nodes(path, ast.FunctionDef)}
        for path in FILES:
            with self.subTest(str(path.relative_to(PACKAGE))):
                called = {node.func.attr for node in nodes(path, ast.Call) if isinstance(node.func, ast.Attribute)}
                self.assertEqual(called - own - METHODS, set())

    def test_locals_have_no_names_of_imports_and_classes(self):
        for path in FILES:
            with self.subTest(str(path.relative_to(PACKAGE))):
                barred = {alias.name for node in nodes(path, ast.ImportFrom) for alias in node.names}
                barred |= {node.name for node in nodes(path, ast.ClassDef)}
                names = {node.arg for node in nodes(path, ast.arg)}
                names |= {node.id for node in nodes(path, ast.Name) if not isinstance(node.ctx, ast.Load)}
                names |= {node.name for node in nodes(path, ast.ExceptHandler)}
                self.assertEqual(names & barred, set())

    def test_names_of_methods_and_attributes(self):
        methods, decorated, attributes = set(), set(), set()
        for path in FILES:
            for made in nodes(path, ast.ClassDef):
                own = [part for part in made.body if isinstance(part, ast.FunctionDef)]
                stored = {
                    node.attr for node in ast.walk(made)
                    if isinstance(node, ast.Attribute) and not isinstance(node.ctx, ast.Load)
                }
                self.assertEqual({part.name for part in own} & stored, set())
                methods |= {part.name for part in own}
                decorated |= {part.name for part in own if part.decorator_list}
                attributes |= stored
        self.assertEqual(decorated & attributes, set())
        for path in FILES:
            for node in nodes(path, ast.Call):
                if isinstance(node.func, ast.Attribute):
                    self.assertNotIn(node.func.attr, attributes - methods)

    def test_calls(self):
        for path in FILES:
            with self.subTest(str(path.relative_to(PACKAGE))):
                for node in nodes(path, ast.Call):
                    self.assertNotIsInstance(node.func, (ast.Call, ast.Subscript, ast.Lambda))
                    for part in node.args:
                        if isinstance(part, ast.Starred):
                            self.assertIsInstance(part.value, (ast.Name, ast.Attribute))
                for node in nodes(path, ast.Compare):
                    for operation, other in zip(node.ops, node.comparators):
                        if isinstance(operation, (ast.Is, ast.IsNot)):
                            self.assertIn(ast.unparse(other), ("None", "True", "False"))

    def test_comparing_and_showing_assigns_nothing(self):
        for path in FILES:
            with self.subTest(str(path.relative_to(PACKAGE))):
                for made in nodes(path, ast.FunctionDef):
                    if made.name in ("__eq__", "__len__", "__str__", "__repr__"):
                        barred = (ast.Assign, ast.AugAssign, ast.AnnAssign, ast.NamedExpr, ast.Delete)
                        self.assertEqual([node for node in ast.walk(made) if isinstance(node, barred)], [])
                    if made.name == "__init__":
                        self.assertEqual([node for node in ast.walk(made) if isinstance(node, ast.Return)], [])

    def test_kept_iterators(self):
        generators = {
            node.name for path in FILES for node in nodes(path, ast.FunctionDef)
            if any(isinstance(part, ast.Yield) for part in ast.walk(node))
        }
        for path in FILES:
            with self.subTest(str(path.relative_to(PACKAGE))):
                for node in nodes(path, ast.Assign):
                    told = ast.unparse(node.value).split("(")[0]
                    self.assertNotIn(told, {"zip", "enumerate", "reversed", "map", "iter", *generators})

    def test_words(self):
        barred = ("type", "typing", "enum", "Protocol", "Generic", "ABC", "_wall", "_WallAttr")
        for path in FILES:
            with self.subTest(str(path.relative_to(PACKAGE))):
                words = set(re.findall(r"\w+", text_of(path)))
                self.assertEqual(words & set(barred), set())


if __name__ == "__main__":
    unittest.main()

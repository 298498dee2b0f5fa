"""Rules of LANGUAGE.md that the files of the package show by themselves, by their numbers."""

import ast
import builtins
import os
import unittest
import warnings

TOP = os.path.join(os.path.dirname(os.path.dirname(os.path.abspath(__file__))), "justthepart")

LIBRARY = {
    "heapq": "heappush heappop heapify heapreplace heappushpop",
    "math": "gcd lcm isqrt comb perm factorial",
    "itertools": "product combinations permutations chain accumulate pairwise islice zip_longest",
    "collections": "defaultdict deque",
}

BUILTINS = """len range enumerate zip min max sum abs sorted reversed int str bool bytes list tuple dict set
    frozenset isinstance ord repr any all divmod pow getattr hasattr setattr iter next map type super
    property staticmethod classmethod object Exception ValueError TypeError KeyError IndexError LookupError
    ZeroDivisionError ArithmeticError OverflowError RuntimeError NotImplementedError AttributeError
    StopIteration NotImplemented""".split()

BARRED = """type typing typing_extensions enum Enum IntEnum StrEnum Flag IntFlag Generic Protocol ABC ABCMeta
    namedtuple NamedTuple TypedDict TYPE_CHECKING abstractmethod register mro elements open input law
    version_info with_traceback add_note""".split()


def files():
    """Return (path, text) of all files of the package."""
    out = []
    for folder, _, names in sorted(os.walk(TOP)):
        for name in sorted(names):
            if not folder.endswith("__pycache__"):
                path = os.path.join(folder, name)
                with open(path, encoding="utf-8") as file:
                    out.append((path, file.read()))
    return out


def nodes(kind):
    """Return (path, node) of all nodes of a kind."""
    return [(path, node) for path, text in files() for node in ast.walk(ast.parse(text)) if isinstance(node, kind)]


def names_given():
    """Return (path, name) of all that a name is given to."""
    out = [(path, node.name) for path, node in nodes((ast.FunctionDef, ast.ClassDef))]
    out += [(path, node.arg) for path, node in nodes((ast.arg, ast.keyword)) if node.arg]
    out += [(path, node.id) for path, node in nodes(ast.Name) if isinstance(node.ctx, ast.Store)]
    return out + [(path, alias.name) for path, node in nodes(ast.ImportFrom) for alias in node.names]


def is_builtin(name):
    """Return whether a name is one of Python's own builtins (doctest leaves a `_` among them)."""
    return hasattr(builtins, name) and not name.startswith("_")


class Language(unittest.TestCase):
    def test_l1_l14_files(self):
        for path, _ in files():
            name = os.path.basename(path)
            self.assertTrue(name.endswith(".py") and name[:-3].isidentifier() and name == name.lower(), path)

    def test_l2_l16_imports(self):
        own = {"justthepart." + os.path.basename(path)[:-3] for path, _ in files()}
        self.assertEqual(nodes(ast.Import), [])
        for path, node in nodes(ast.ImportFrom):
            self.assertEqual(node.level, 0, path)
            if node.module in LIBRARY:
                allowed = LIBRARY[node.module].split()
                self.assertTrue(all(alias.name in allowed and not alias.asname for alias in node.names), path)
            else:
                self.assertIn(node.module, own, path)

    def test_l3_module_level(self):
        kinds = (ast.ImportFrom, ast.FunctionDef, ast.ClassDef, ast.Assign)
        for path, tree in nodes(ast.Module):
            docstring = tree.body[:1] if ast.get_docstring(tree) else []
            for node in tree.body[len(docstring):]:
                self.assertIsInstance(node, kinds, path)

    def test_l7_no_float(self):
        for path, node in nodes(ast.Constant):
            self.assertNotIsInstance(node.value, (float, complex), path)
        self.assertEqual(nodes(ast.Div), [])

    def test_l8_builtins(self):
        for path, node in nodes(ast.Name):
            if is_builtin(node.id):
                self.assertIn(node.id, BUILTINS, path)

    def test_l10_size(self):
        for path, text in files():
            lines = text.split("\n")
            self.assertLessEqual(len(lines), 400, path)
            self.assertLessEqual(max(len(line) for line in lines), 120, path)
        for path, node in nodes(ast.FunctionDef):
            self.assertLessEqual(node.end_lineno - node.lineno + 1, 40, (path, node.name))

    def test_l12_l15_l17_names(self):
        for path, name in names_given():
            self.assertNotIn(name, BARRED, path)
            self.assertFalse(is_builtin(name), (path, name))

    def test_l14_characters(self):
        for path, text in files():
            self.assertTrue(all(sign == "\n" or " " <= sign <= "~" for sign in text), path)

    def test_l15_no_name_has_two_meanings(self):
        for path, tree in nodes(ast.Module):
            taken = {alias.name for node in tree.body if isinstance(node, ast.ImportFrom) for alias in node.names}
            taken |= {node.name for node in tree.body if isinstance(node, (ast.ClassDef, ast.FunctionDef))}
            for node in ast.walk(tree):
                if isinstance(node, ast.arg):
                    self.assertNotIn(node.arg, taken, (path, node.lineno))
                if isinstance(node, ast.Name) and isinstance(node.ctx, ast.Store):
                    self.assertNotIn(node.id, taken, (path, node.lineno))

    def test_l16_imports_that_are_used(self):
        for path, tree in nodes(ast.Module):
            used = {node.id for node in ast.walk(tree) if isinstance(node, ast.Name)}
            for node in tree.body:
                if isinstance(node, ast.ImportFrom):
                    self.assertLessEqual({alias.name for alias in node.names}, used, path)

    def test_l18_methods_and_attributes(self):
        methods, stored = set(), set()
        for _, kind in nodes(ast.ClassDef):
            own = [node.name for node in kind.body if isinstance(node, ast.FunctionDef)]
            self.assertEqual(len(own), len(set(own)), kind.name)
            methods |= set(own)
            stored |= {node.attr for node in ast.walk(kind) if isinstance(node, ast.Attribute) and isinstance(node.ctx, ast.Store)}
        self.assertEqual(methods & stored, set())

    def test_l20_l24_is_and_sets(self):
        self.assertEqual(nodes((ast.Set, ast.SetComp)), [])
        for path, node in nodes(ast.Compare):
            for sign, other in zip(node.ops, node.comparators):
                if isinstance(sign, (ast.Is, ast.IsNot)):
                    self.assertIsInstance(other, ast.Constant, (path, node.lineno))

    def test_l27_no_warnings(self):
        for path, text in files():
            with warnings.catch_warnings():
                warnings.simplefilter("error")
                compile(text, path, "exec")


if __name__ == "__main__":
    unittest.main()

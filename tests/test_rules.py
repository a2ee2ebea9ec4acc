"""Rules of the language that the files of the package keep to, as far as they are easily seen."""

import ast
import pathlib
import unittest

PACKAGE = pathlib.Path(__file__).resolve().parent.parent / "filerights"
FILES = sorted(PACKAGE.rglob("*.py"))
DOUBLE = {
    "__init__", "__eq__", "__repr__", "__str__", "__len__", "__enter__", "__exit__", "__call__", "__iter__", "__or__",
    "__and__", "__sub__", "__xor__", "__invert__", "__bool__", "__contains__", "__getitem__", "__setitem__",
}
BUILTINS = set(
    "len range enumerate zip min max sum abs sorted reversed int str bool list tuple dict set isinstance ord repr any "
    "all divmod iter next map property classmethod staticmethod Exception ValueError TypeError KeyError IndexError "
    "LookupError".split()
)
METHODS = set(
    "append clear copy count endswith extend find get index insert isalnum isalpha isdigit islower isspace isupper "
    "items join keys ljust lower lstrip partition pop remove replace reverse rfind rjust rpartition rsplit rstrip "
    "setdefault split splitlines startswith strip update upper values zfill bit_length isascii add discard".split()
)
LIBRARY = {"heapq", "math", "itertools", "collections"}
BARRED = set("type typing enum dataclass namedtuple register elements open input law eval exec global async".split())


def trees():
    return [(file.name, ast.parse(file.read_text())) for file in FILES]


class RulesTest(unittest.TestCase):
    def test_the_folder_holds_only_files_of_the_package(self):
        for entry in PACKAGE.rglob("*"):
            if "__pycache__" not in entry.parts:
                self.assertTrue(entry.is_dir() or entry.suffix == ".py", entry)
        self.assertTrue((PACKAGE / "__init__.py").exists())

    def test_sizes_and_signs(self):
        for file in FILES:
            text = file.read_text()
            lines = text.split("\n")
            self.assertLess(len(lines), 400, file)
            self.assertLessEqual(max([len(line) for line in lines]), 120, file)
            self.assertTrue(all([sign == "\n" or " " <= sign <= "~" for sign in text]), file)

    def test_sizes_of_functions(self):
        for name, tree in trees():
            for node in ast.walk(tree):
                if isinstance(node, ast.FunctionDef):
                    self.assertLessEqual(node.end_lineno - node.lineno + 1, 40, (name, node.name))

    def test_imports(self):
        for name, tree in trees():
            for node in ast.walk(tree):
                self.assertNotIsInstance(node, ast.Import, name)
                if isinstance(node, ast.ImportFrom):
                    self.assertIn(node, tree.body, name)
                    self.assertEqual(node.level, 0, name)
                    self.assertTrue(node.module.startswith("filerights.") or node.module in LIBRARY, node.module)
                    self.assertEqual([alias.asname for alias in node.names], [None] * len(node.names))

    def test_names(self):
        for name, tree in trees():
            for node in ast.walk(tree):
                if isinstance(node, (ast.FunctionDef, ast.ClassDef)):
                    self.assertTrue(not node.name.startswith("__") or node.name in DOUBLE, (name, node.name))
                    self.assertNotIn(node.name, BUILTINS | BARRED, name)
                if isinstance(node, ast.Name):
                    self.assertNotIn(node.id, BARRED, name)
                    self.assertTrue(not isinstance(node.ctx, ast.Store) or node.id not in BUILTINS, (name, node.id))

    def test_what_is_called(self):
        own = set(BUILTINS)
        for _, tree in trees():
            own.update([node.name for node in ast.walk(tree) if isinstance(node, (ast.FunctionDef, ast.ClassDef))])
        for name, tree in trees():
            for node in ast.walk(tree):
                if isinstance(node, ast.Call) and isinstance(node.func, ast.Name):
                    self.assertIn(node.func.id, own | {"cls", "heappush", "heappop", "defaultdict"}, name)
                if isinstance(node, ast.Call) and isinstance(node.func, ast.Attribute):
                    self.assertIn(node.func.attr, own | METHODS, name)

    def test_statements_and_values(self):
        barred = (ast.Global, ast.AsyncFunctionDef, ast.Await, ast.Div)
        for name, tree in trees():
            for node in ast.walk(tree):
                self.assertNotIsInstance(node, barred, name)
                if isinstance(node, ast.Constant):
                    self.assertNotIsInstance(node.value, (float, complex), name)
                    self.assertNotIn("%", node.value if isinstance(node.value, str) else "", name)
                if isinstance(node, ast.Call):
                    for part in node.args:
                        if isinstance(part, ast.Starred):
                            self.assertIsInstance(part.value, (ast.Name, ast.Attribute), name)


if __name__ == "__main__":
    unittest.main()

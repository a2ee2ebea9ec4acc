"""Rules of the language that the files of the package keep to, as far as they are easily seen."""

import ast
import builtins
import pathlib
import unittest

PACKAGE = pathlib.Path(__file__).resolve().parent.parent / "filerights"
FILES = sorted(PACKAGE.rglob("*.py"))
DOUBLE = {
    "__init__", "__eq__", "__repr__", "__str__", "__len__", "__enter__", "__exit__", "__call__", "__iter__", "__or__",
    "__and__", "__sub__", "__xor__", "__invert__", "__bool__", "__contains__", "__getitem__", "__setitem__",
}
BUILTINS = set(
    "len range enumerate zip min max sum abs sorted reversed int str bool list tuple dict set isinstance ord repr any "
    "all divmod iter next map property classmethod staticmethod Exception ValueError TypeError KeyError IndexError "
    "LookupError".split()
)
METHODS = set(
    "append clear copy count endswith extend find get index insert isalnum isalpha isdigit islower isspace isupper "
    "items join keys ljust lower lstrip partition pop remove replace reverse rfind rjust rpartition rsplit rstrip "
    "setdefault split splitlines startswith strip update upper values zfill bit_length isascii add discard".split()
)
# A function that is taken from a table has a name first, and so has an object that is called.
CALLED_VARIABLES = {"cls", "heappush", "heappop", "defaultdict", "action", "reader", "judge"}
LIBRARY = {"heapq", "math", "itertools", "collections"}
BARRED = set("type typing enum dataclass namedtuple register elements open input law eval exec global async".split())


# Python runs these by itself, wherever a sign or a plain look at an object stands.
RUN_BY_SIGNS = DOUBLE - {"__init__", "__enter__", "__exit__", "__call__", "__iter__", "__setitem__"}
CHANGES = set("append clear extend insert pop remove reverse setdefault update add discard".split())


def trees():
    return [(file.name, ast.parse(file.read_text())) for file in FILES]


def functions(all_trees):
    """Return the functions and methods of the trees by their names; a class stands for its __init__."""
    found = {}
    for _, tree in all_trees:
        for node in ast.walk(tree):
            if isinstance(node, ast.FunctionDef):
                found.setdefault(node.name, []).append(node)
            if isinstance(node, ast.ClassDef):
                found.setdefault(node.name, []).extend(
                    [part for part in node.body if isinstance(part, ast.FunctionDef) and part.name == "__init__"])
    return found


def attributes(all_trees):
    """Return the names that are attributes, or properties, of some class."""
    found = set()
    for _, tree in all_trees:
        for node in ast.walk(tree):
            if isinstance(node, ast.Attribute) and isinstance(node.ctx, ast.Store):
                found.add(node.attr)
            if isinstance(node, ast.FunctionDef) and is_property(node):
                found.add(node.name)
    return found


def is_property(function):
    return any([isinstance(part, ast.Name) and part.id == "property" for part in function.decorator_list])


def calls_in(function):
    return [node.func for node in ast.walk(function) if isinstance(node, ast.Call)]


def run_by_signs(all_trees):
    """Return what operators, properties, ==, str, repr and len run, at any depth."""
    known, found = functions(all_trees), []
    waiting = [part for name in known for part in known[name] if name in RUN_BY_SIGNS or is_property(part)]
    while waiting:
        function = waiting.pop()
        if function in found:
            continue
        found.append(function)
        for called in calls_in(function):
            name = called.id if isinstance(called, ast.Name) else getattr(called, "attr", "")
            waiting.extend([function] if name == "cls" else known.get(name, []))
    return found


def faults_in(all_trees):
    """Return what is called, or changed, where operators and their like run, and must not be."""
    held, known, faults = attributes(all_trees), functions(all_trees), []
    for function in run_by_signs(all_trees):
        parameters = [part.arg for part in function.args.args]
        for called in calls_in(function):
            if isinstance(called, ast.Attribute):
                if called.attr in held | (CHANGES - set(known)):
                    faults.append((function.name, called.attr))
            elif not isinstance(called, ast.Name) or called.id in parameters:
                faults.append((function.name, ast.dump(called)))
        for node in ast.walk(function):
            stored = isinstance(node, (ast.Attribute, ast.Subscript)) and not isinstance(node.ctx, ast.Load)
            if stored and function.name != "__init__":
                faults.append((function.name, ast.unparse(node)))
    return faults


def bound_in(function):
    """Return the names that a function binds: parameters, local variables and the names of caught errors."""
    names = [part.arg for part in ast.walk(function) if isinstance(part, ast.arg)]
    names += [part.id for part in ast.walk(function) if isinstance(part, ast.Name) and isinstance(part.ctx, ast.Store)]
    return names + [part.name for part in ast.walk(function) if isinstance(part, ast.ExceptHandler) and part.name]


def is_generator(function):
    return any([isinstance(part, (ast.Yield, ast.YieldFrom)) for part in ast.walk(function)])


def is_set(node):
    if isinstance(node, (ast.Set, ast.SetComp)):
        return True
    return isinstance(node, ast.Call) and isinstance(node.func, ast.Name) and node.func.id == "set"


def sets_in_place(tree):
    """Return the sets that stand where they may: in len or sorted, behind in, and beside == or !=."""
    found = []
    for node in ast.walk(tree):
        if isinstance(node, ast.Call) and isinstance(node.func, ast.Name) and node.func.id in ("len", "sorted"):
            found.extend(node.args)
        if isinstance(node, ast.Compare):
            found.extend([node.left, *node.comparators])
    return [node for node in found if is_set(node)]


class RulesTest(unittest.TestCase):
    def test_the_folder_holds_only_files_of_the_package(self):
        for entry in PACKAGE.rglob("*"):
            if "__pycache__" not in entry.parts:
                self.assertTrue(entry.is_dir() or entry.suffix == ".py", entry)
        self.assertTrue((PACKAGE / "__init__.py").exists())

    def test_sizes_and_signs(self):
        for file in FILES:
            text = file.read_text()
            lines = text.split("\n")
            self.assertLess(len(lines), 400, file)
            self.assertLessEqual(max([len(line) for line in lines]), 120, file)
            self.assertTrue(all([sign == "\n" or " " <= sign <= "~" for sign in text]), file)

    def test_sizes_of_functions(self):
        for name, tree in trees():
            for node in ast.walk(tree):
                if isinstance(node, ast.FunctionDef):
                    self.assertLessEqual(node.end_lineno - node.lineno + 1, 40, (name, node.name))

    def test_imports(self):
        for name, tree in trees():
            for node in ast.walk(tree):
                self.assertNotIsInstance(node, ast.Import, name)
                if isinstance(node, ast.ImportFrom):
                    self.assertIn(node, tree.body, name)
                    self.assertEqual(node.level, 0, name)
                    self.assertTrue(node.module.startswith("filerights.") or node.module in LIBRARY, node.module)
                    self.assertEqual([alias.asname for alias in node.names], [None] * len(node.names))

    def test_names(self):
        for name, tree in trees():
            for node in ast.walk(tree):
                if isinstance(node, (ast.FunctionDef, ast.ClassDef)):
                    self.assertTrue(not node.name.startswith("__") or node.name in DOUBLE, (name, node.name))
                    self.assertNotIn(node.name, BUILTINS | BARRED, name)
                if isinstance(node, ast.Name):
                    self.assertNotIn(node.id, BARRED, name)
                    self.assertTrue(not isinstance(node.ctx, ast.Store) or node.id not in BUILTINS, (name, node.id))

    def test_what_is_called(self):
        own = set(BUILTINS)
        for _, tree in trees():
            own.update([node.name for node in ast.walk(tree) if isinstance(node, (ast.FunctionDef, ast.ClassDef))])
        for name, tree in trees():
            for node in ast.walk(tree):
                if isinstance(node, ast.Call) and isinstance(node.func, ast.Name):
                    self.assertIn(node.func.id, own | CALLED_VARIABLES, name)
                if isinstance(node, ast.Call) and isinstance(node.func, ast.Attribute):
                    self.assertIn(node.func.attr, own | METHODS, name)

    def test_statements_and_values(self):
        barred = (ast.Global, ast.AsyncFunctionDef, ast.Await, ast.Div)
        for name, tree in trees():
            for node in ast.walk(tree):
                self.assertNotIsInstance(node, barred, name)
                if isinstance(node, ast.Constant):
                    self.assertNotIsInstance(node.value, (float, complex), name)
                    self.assertNotIn("%", node.value if isinstance(node.value, str) else "", name)
                if isinstance(node, ast.Call):
                    for part in node.args:
                        if isinstance(part, ast.Starred):
                            self.assertIsInstance(part.value, (ast.Name, ast.Attribute), name)

    def test_what_goes_with_an_index(self):
        for name, tree in trees():
            for node in ast.walk(tree):
                if isinstance(node, ast.ClassDef):
                    methods = [part.name for part in node.body if isinstance(part, ast.FunctionDef)]
                    self.assertTrue("__getitem__" not in methods or "__iter__" in methods, node.name)
        for file in FILES:
            for word in ("(type)", "Meta", "metaclass="):
                self.assertNotIn(word, file.read_text())
        self.assertNotIn("keys", attributes(trees()) | set(functions(trees())))

    def test_what_goes_with_a_method_add(self):
        kept = [node for _, tree in trees() for node in ast.walk(tree)
                if isinstance(node, ast.Assign) and isinstance(node.value, (ast.Set, ast.SetComp))]
        self.assertEqual(kept, [])

    def test_names_that_are_bound(self):
        for name, tree in trees():
            taken = set(dir(builtins))
            for node in tree.body:
                if isinstance(node, ast.ImportFrom):
                    taken.update([alias.name for alias in node.names])
                if isinstance(node, ast.ClassDef):
                    taken.add(node.name)
                if isinstance(node, ast.FunctionDef):
                    self.assertNotIn(node.name, dir(builtins), name)
            for node in ast.walk(tree):
                if isinstance(node, ast.FunctionDef):
                    self.assertFalse(set(bound_in(node)) & taken, (name, node.name))

    def test_values_that_are_iterated(self):
        for name, tree in trees():
            for node in ast.walk(tree):
                self.assertNotIsInstance(node, (ast.GeneratorExp, ast.Lambda, ast.NamedExpr), name)
                if isinstance(node, ast.Call) and isinstance(node.func, ast.Name):
                    if node.func.id == "reversed":
                        self.assertIn(ast.unparse(node.args[0]).split("(")[0], ("list", "tuple", "sorted", "range"), name)
                    if node.func.id in dir(builtins):
                        self.assertFalse([part.arg for part in node.keywords if part.arg not in ("key", "start")], name)
            allowed = sets_in_place(tree)
            self.assertEqual([ast.unparse(node) for node in ast.walk(tree) if is_set(node) and node not in allowed], [])

    def test_is_and_handlers(self):
        for name, tree in trees():
            own = [alias.name for node in tree.body if isinstance(node, ast.ImportFrom) for alias in node.names]
            for node in ast.walk(tree):
                if isinstance(node, ast.Compare) and any([isinstance(sign, (ast.Is, ast.IsNot)) for sign in node.ops]):
                    self.assertIsInstance(node.comparators[0], ast.Constant, name)
                if isinstance(node, ast.ExceptHandler):
                    kinds = node.type.elts if isinstance(node.type, ast.Tuple) else [node.type]
                    self.assertFalse([kind.id for kind in kinds if kind.id not in own], name)

    def test_generators(self):
        known = functions(trees())
        for name in known:
            if any([is_generator(part) for part in known[name]]):
                self.assertEqual(len(known[name]), 1, name)
        for name, tree in trees():
            for node in ast.walk(tree):
                if isinstance(node, (ast.Try, ast.With)):
                    self.assertFalse([part for part in ast.walk(node) if isinstance(part, ast.Yield)], name)

    def test_the_end_of_a_block(self):
        rows = [ast.unparse(row) for part in functions(trees())["__exit__"] for row in part.body]
        self.assertEqual(rows, ["house = self._house", "house.state = self._kept"])

    def test_no_name_is_an_attribute_and_a_method(self):
        nodes = [node for _, tree in trees() for node in ast.walk(tree)]
        stored = {node.attr for node in nodes if isinstance(node, ast.Attribute) and isinstance(node.ctx, ast.Store)}
        methods = {part.name for node in nodes if isinstance(node, ast.ClassDef)
                   for part in node.body if isinstance(part, ast.FunctionDef)}
        self.assertFalse(stored & methods)

    def test_no_two_files_import_from_each_other(self):
        wanted = {}
        for name, tree in trees():
            modules = [node.module.split(".")[-1] for node in tree.body if isinstance(node, ast.ImportFrom)]
            wanted[name[:-3]] = [module for module in modules if module not in LIBRARY]
        while wanted:
            free = [name for name in wanted if not set(wanted[name]) & set(wanted)]
            self.assertTrue(free, wanted)
            wanted = {name: wanted[name] for name in wanted if name not in free}

    def test_what_an_import_names_is_defined_in_that_file(self):
        defined = {}
        for name, tree in trees():
            bound = [node.name for node in tree.body if isinstance(node, (ast.FunctionDef, ast.ClassDef))]
            bound += [node.targets[0].id for node in tree.body if isinstance(node, ast.Assign)]
            self.assertEqual(len(bound), len(set(bound)), name)
            defined[f"filerights.{name[:-3]}"] = bound
        for name, tree in trees():
            names = [alias.name for node in tree.body if isinstance(node, ast.ImportFrom) for alias in node.names]
            self.assertEqual(len(names), len(set(names)), name)
            used = {node.id for node in ast.walk(tree) if isinstance(node, ast.Name)}
            self.assertEqual([word for word in names if word not in used], [], name)
            for node in tree.body:
                if isinstance(node, ast.ImportFrom) and node.module not in LIBRARY:
                    self.assertTrue({alias.name for alias in node.names} <= set(defined[node.module]), name)

    def test_properties_are_not_stored(self):
        properties = {part.name for parts in functions(trees()).values() for part in parts if is_property(part)}
        for name, tree in trees():
            stored = {node.attr for node in ast.walk(tree)
                      if isinstance(node, ast.Attribute) and isinstance(node.ctx, ast.Store)}
            self.assertFalse(properties & stored, name)

    def test_no_name_is_a_method_and_a_property_or_an_attribute(self):
        for name, tree in trees():
            for node in ast.walk(tree):
                if isinstance(node, ast.ClassDef):
                    parts = [part for part in node.body if isinstance(part, ast.FunctionDef)]
                    stored = [part.attr for part in ast.walk(node)
                              if isinstance(part, ast.Attribute) and isinstance(part.ctx, ast.Store)]
                    self.assertFalse({part.name for part in parts} & set(stored), node.name)
        properties = {part.name for parts in functions(trees()).values() for part in parts if is_property(part)}
        for name in properties:
            self.assertTrue(all([is_property(part) for part in functions(trees())[name]]), name)

    def test_what_operators_and_properties_run(self):
        self.assertEqual(faults_in(trees()), [])
        self.assertGreater(len(run_by_signs(trees())), 20)

    def test_a_fault_behind_an_operator_is_seen(self):
        text = (
            "class Box:\n    def __init__(self, count):\n        self.count = told(count)\n"
            "    def __or__(self, other):\n        return Box(other)\n"
            "def told(value):\n    return value.count('a')\n"
        )
        self.assertEqual(faults_in([("box.py", ast.parse(text))]), [("told", "count")])
        changed = "def told(value):\n    value.append(1)\n    value.count = 2\n    return value(1)\n"
        told = faults_in([("box.py", ast.parse(text[:text.index("def told")] + changed))])
        self.assertEqual([name for name, _ in told], ["told"] * 3)


if __name__ == "__main__":
    unittest.main()

"""The files of the package keep to the plain subset of Python that they are written in."""

import ast
import builtins
import pathlib
import unittest

FOLDER = pathlib.Path(__file__).resolve().parent.parent / "clobberwalk"

LIBRARY = {
    "heapq": {"heappush", "heappop", "heapify", "heapreplace", "heappushpop"},
    "math": {"gcd", "lcm", "isqrt", "comb", "perm", "factorial"},
    "itertools": {
        "product", "combinations", "permutations", "chain", "accumulate", "pairwise", "islice", "zip_longest",
    },
    "collections": {"defaultdict", "deque"},
}

BUILTINS = {
    "len", "range", "enumerate", "zip", "min", "max", "sum", "abs", "sorted", "reversed", "int", "str", "bool",
    "list", "tuple", "dict", "set", "isinstance", "ord", "repr", "any", "all", "divmod", "map", "iter", "next",
    "type", "super", "property", "staticmethod", "classmethod", "Exception", "ValueError", "TypeError", "KeyError",
    "IndexError", "LookupError", "ZeroDivisionError", "ArithmeticError", "OverflowError", "RuntimeError",
    "NotImplementedError", "AttributeError", "StopIteration", "NotImplemented",
}

BARRED = {
    "register", "mro", "elements", "open", "input", "law", "version_info", "with_traceback", "add_note",
    "attrgetter", "breakpoint", "builtins", "compile", "delattr", "dir", "eval", "exec", "exit", "gc", "globals",
    "help", "id", "importlib", "license", "locals", "methodcaller", "os", "quit", "vars", "sys",
}

NODES_NOT_USED = (
    ast.AsyncFunctionDef, ast.AsyncFor, ast.AsyncWith, ast.Await, ast.Div, ast.MatMult, ast.GeneratorExp, ast.Import,
)


def bound_names(tree):
    """List the names that a tree binds: variables, parameters, functions, classes, imports, caught errors."""
    found = []
    for node in ast.walk(tree):
        if isinstance(node, ast.Name) and not isinstance(node.ctx, ast.Load):
            found.append(node.id)
        elif isinstance(node, ast.arg):
            found.append(node.arg)
        elif isinstance(node, (ast.FunctionDef, ast.ClassDef, ast.ExceptHandler)) and node.name:
            found.append(node.name)
        elif isinstance(node, ast.alias):
            found.append(node.name)
    return found


def loaded_names(tree):
    """Tell the names that a tree reads, those of classes that it calls or extends included."""
    return {node.id for node in ast.walk(tree) if isinstance(node, ast.Name) and isinstance(node.ctx, ast.Load)}


def is_reading(parent, child):
    """Tell whether a table is indexed, tested by in, iterated, or asked by a method that changes nothing."""
    if isinstance(parent, ast.Subscript):
        return parent.value is child and isinstance(parent.ctx, ast.Load)
    if isinstance(parent, ast.Compare):
        return True
    if isinstance(parent, ast.Attribute):
        return parent.attr in ("get", "items", "values")
    if isinstance(parent, (ast.For, ast.comprehension)):
        return parent.iter is child
    return isinstance(parent, ast.Call) and parent.func.id in ("len", "sorted", "list", "dict", "tuple")


class Language(unittest.TestCase):
    def check_each(self, check):
        for path in sorted(FOLDER.rglob("*.py")):
            with self.subTest(path.name):
                text = path.read_text(encoding="utf-8")
                check(path, text, ast.parse(text))

    def test_the_folder_contains_plain_files_alone(self):
        names = [path.name for path in FOLDER.iterdir() if path.name != "__pycache__"]
        self.assertIn("__init__.py", names)
        for name in names:
            self.assertRegex(name, r"^[a-z0-9_]+\.py$")

    def test_size_and_characters(self):
        def check(_, text, tree):
            lines = text.split("\n")
            self.assertLessEqual(len(lines), 399)
            self.assertLessEqual(max(map(len, lines)), 120)
            self.assertLessEqual({sign for sign in text}, {chr(code) for code in range(32, 127)} | {"\n"})
            for node in ast.walk(tree):
                if isinstance(node, ast.FunctionDef):
                    self.assertLessEqual(node.end_lineno - node.lineno + 1, 40, node.name)
        self.check_each(check)

    def test_statements_at_module_level(self):
        def check(_, __, tree):
            for node in tree.body:
                plain = isinstance(node, (ast.ImportFrom, ast.FunctionDef, ast.ClassDef, ast.Assign))
                docstring = node is tree.body[0] and isinstance(node, ast.Expr)
                self.assertTrue(plain or docstring, ast.dump(node))
        self.check_each(check)

    def test_imports(self):
        def check(_, __, tree):
            for node in ast.walk(tree):
                if isinstance(node, ast.ImportFrom):
                    self.assertEqual(node.level, 0)
                    names = {alias.name for alias in node.names}
                    self.assertTrue(all([alias.asname is None for alias in node.names]))
                    if node.module in LIBRARY:
                        self.assertLessEqual(names, LIBRARY[node.module])
                    else:
                        self.assertIn(node.module, {f"clobberwalk.{path.stem}" for path in FOLDER.glob("*.py")})
                        self.assertLessEqual(names, self.defined_in(node.module))
        self.check_each(check)

    def defined_in(self, module):
        path = FOLDER / (module.split(".")[1] + ".py")
        body = ast.parse(path.read_text(encoding="utf-8")).body
        found = {node.name for node in body if isinstance(node, (ast.FunctionDef, ast.ClassDef))}
        return found | {node.targets[0].id for node in body if isinstance(node, ast.Assign)}

    def test_names(self):
        def check(_, __, tree):
            bound = set(bound_names(tree))
            self.assertFalse(bound & BARRED)
            self.assertFalse({name for name in bound if hasattr(builtins, name)} - {"__init__", "__eq__"})
            imports = [alias.name for node in ast.walk(tree) if isinstance(node, ast.ImportFrom) for alias in node.names]
            for name in imports:
                self.assertEqual(bound_names(tree).count(name), 1, name)
            for node in ast.walk(tree):
                if isinstance(node, ast.Name) and isinstance(node.ctx, ast.Load) and hasattr(builtins, node.id):
                    self.assertIn(node.id, BUILTINS)
        self.check_each(check)

    def test_each_import_and_each_function_is_used(self):
        texts = {path: ast.parse(path.read_text(encoding="utf-8")) for path in FOLDER.rglob("*.py")}
        loaded = {path: loaded_names(tree) for path, tree in texts.items()}
        imported = {
            alias.name for tree in texts.values() for node in tree.body if isinstance(node, ast.ImportFrom)
            for alias in node.names
        }
        for path, tree in texts.items():
            with self.subTest(path.name):
                for node in tree.body:
                    if isinstance(node, ast.ImportFrom):
                        self.assertLessEqual({alias.name for alias in node.names}, loaded[path])
                    elif isinstance(node, ast.FunctionDef) and node.name.startswith("_"):
                        self.assertIn(node.name, loaded[path])
                    elif isinstance(node, ast.Assign):
                        self.assertIn(node.targets[0].id, loaded[path] | imported)

    def test_no_two_files_import_from_each_other(self):
        follows = {path.stem: set() for path in FOLDER.glob("*.py")}
        for path in FOLDER.glob("*.py"):
            for node in ast.parse(path.read_text(encoding="utf-8")).body:
                if isinstance(node, ast.ImportFrom) and node.module.startswith("clobberwalk."):
                    follows[path.stem].add(node.module.split(".")[1])
        while follows:
            free = [name for name, others in follows.items() if not others & set(follows)]
            self.assertTrue(free, follows)
            for name in free:
                del follows[name]

    def test_tables_at_module_level_are_only_read(self):
        tables = set()
        for path in FOLDER.rglob("*.py"):
            for node in ast.parse(path.read_text(encoding="utf-8")).body:
                if isinstance(node, ast.Assign) and isinstance(node.value, (ast.Dict, ast.List)):
                    tables.add(node.targets[0].id)

        def check(_, __, tree):
            for parent in ast.walk(tree):
                for child in ast.iter_child_nodes(parent):
                    if isinstance(child, ast.Name) and child.id in tables and isinstance(child.ctx, ast.Load):
                        self.assertTrue(is_reading(parent, child), ast.dump(parent))
        self.check_each(check)

    def classes(self):
        """List the classes of the package, and the names of the attributes that each assigns to itself."""
        found = []
        for path in FOLDER.rglob("*.py"):
            for node in ast.walk(ast.parse(path.read_text(encoding="utf-8"))):
                if isinstance(node, ast.ClassDef):
                    stored = {
                        part.attr for part in ast.walk(node)
                        if isinstance(part, ast.Attribute) and isinstance(part.ctx, ast.Store) and getattr(part.value, "id", "") == "self"
                    }
                    found.append((node, stored))
        return found

    def test_names_of_methods_attributes_and_properties(self):
        classes = self.classes()
        methods = {node.name: [one for one in node.body if isinstance(one, ast.FunctionDef)] for node, _ in classes}
        bases = {node.name: [base.id for base in node.bases if base.id in methods] for node, _ in classes}
        stored = {node.name: names for node, names in classes}
        every = {name for names in stored.values() for name in names}
        for name, own in methods.items():
            family, waiting = set(), [name]
            while waiting:
                family.add(waiting[0])
                waiting.extend(bases[waiting.pop(0)])
            names = [one.name for one in own]
            for one in own:
                with self.subTest(f"{name}.{one.name}"):
                    self.assertFalse([other for other in family if one.name in stored[other]])
                    self.assertEqual(names.count(one.name), 1)
                    if one.decorator_list or any([isinstance(part, (ast.Yield, ast.YieldFrom)) for part in ast.walk(one)]):
                        self.assertNotIn(one.name, every)
                        for other in [two for rows in methods.values() for two in rows if two.name == one.name]:
                            self.assertEqual([ast.dump(part) for part in other.decorator_list], [ast.dump(part) for part in one.decorator_list])

    def test_methods_are_read_off_objects(self):
        names = {node.name for node, _ in self.classes()}
        static = {one.name for node, _ in self.classes() for one in node.body if getattr(one, "decorator_list", None)}

        def check(_, __, tree):
            for node in ast.walk(tree):
                if isinstance(node, ast.Attribute) and isinstance(node.value, ast.Name) and node.value.id in names:
                    self.assertTrue(node.attr.isupper() or node.attr in static, node.attr)
                if isinstance(node, ast.Attribute) and node.attr.startswith("__"):
                    self.assertEqual(node.attr, "__init__")
        self.check_each(check)

    def test_nodes_that_are_not_used(self):
        def check(_, text, tree):
            for node in ast.walk(tree):
                self.assertNotIsInstance(node, NODES_NOT_USED)
                if isinstance(node, ast.Constant):
                    self.assertNotIsInstance(node.value, (float, complex))
                    self.assertFalse(isinstance(node.value, str) and "%" in node.value)
                if isinstance(node, ast.Set):
                    self.assertLess(len([k for k in node.elts if isinstance(getattr(k, "value", 0), int)]), 3)
        self.check_each(check)


if __name__ == "__main__":
    unittest.main()

"""The rules of the language that a test can see: files, sizes, imports, names, and what is not used at all."""

import ast
import unittest
from pathlib import Path

import lastingshares

FOLDER = Path(lastingshares.__file__).parent
FILES = sorted(path for path in FOLDER.iterdir() if path.name != "__pycache__")
LIBRARY = {"heapq": ["heappush", "heappop", "heapify", "heapreplace", "heappushpop"],
           "math": ["gcd", "lcm", "isqrt", "comb", "perm", "factorial"],
           "itertools": ["accumulate", "pairwise", "islice", "zip_longest"],
           "collections": ["defaultdict"]}
BUILTINS = ["len", "range", "enumerate", "zip", "min", "max", "sum", "abs", "sorted", "reversed", "int", "str", "bool",
            "list", "tuple", "dict", "set", "isinstance", "ord", "repr", "any", "all", "divmod", "map", "iter", "next",
            "super", "property", "staticmethod", "classmethod", "Exception", "ValueError", "KeyError",
            "ZeroDivisionError", "NotImplemented"]
WITH_LISTS = ["any", "all", "min", "max", "sum", "sorted"]
AT_ONCE = ["range", "zip", "enumerate", "reversed", "map"]
TAKERS = ["list", "tuple", "dict", "sorted", "sum", "any", "all", "enumerate", "zip", "min", "max", "join", "range",
          "reversed"]
METHODS = ["append", "clear", "copy", "count", "endswith", "extend", "find", "get", "index", "insert", "isalnum",
           "isalpha", "isdigit", "items", "join", "keys", "ljust", "lower", "lstrip", "partition", "pop", "remove",
           "replace", "reverse", "rfind", "rjust", "rsplit", "rstrip", "setdefault", "split", "startswith", "strip",
           "update", "upper", "values", "zfill", "bit_length", "add", "discard"]
NOT_USED = (ast.Global, ast.AsyncFunctionDef, ast.AsyncFor, ast.AsyncWith, ast.Await, ast.Div, ast.MatMult,
            ast.AnnAssign, ast.Import)
BARRED_NAMES = ["register", "mro", "elements", "open", "input", "law", "version_info", "with_traceback", "add_note"]
PYTHON_NAMES = dir(__builtins__) if not isinstance(__builtins__, dict) else list(__builtins__)


def trees():
    return [(path.name, ast.parse(path.read_text(), str(path))) for path in FILES]


def nodes(kind):
    return [(name, node) for name, tree in trees() for node in ast.walk(tree) if isinstance(node, kind)]


def bound_names(tree):
    """The names that a file gives to functions, classes, parameters, variables and imports."""
    for node in ast.walk(tree):
        if isinstance(node, ast.ClassDef):
            yield node.name
        elif isinstance(node, ast.arg):
            yield node.arg
        elif isinstance(node, ast.Name) and isinstance(node.ctx, ast.Store):
            yield node.id
        elif isinstance(node, ast.alias):
            yield node.asname or node.name
    for node in tree.body:
        if isinstance(node, ast.FunctionDef):
            yield node.name


def defined_names(tree):
    """The names that a file defines at module level."""
    for node in tree.body:
        if isinstance(node, (ast.FunctionDef, ast.ClassDef)):
            yield node.name
        elif isinstance(node, ast.Assign):
            yield node.targets[0].id


def beside():
    """Each node below another one, with the name of its file and the node above it."""
    return [(name, node, above) for name, above in nodes(ast.AST) for node in ast.iter_child_nodes(above)]


def called(node):
    """The name of the function or method that a node calls; an empty string if it calls none."""
    if not isinstance(node, ast.Call):
        return ""
    return node.func.id if isinstance(node.func, ast.Name) else getattr(node.func, "attr", "")


def generators():
    return {node.name for _, node in nodes(ast.FunctionDef)
            if any(isinstance(part, (ast.Yield, ast.YieldFrom)) for part in ast.walk(node))}


def is_iterated(node, above):
    if isinstance(above, (ast.For, ast.comprehension)):
        return above.iter is node
    return called(above) in TAKERS and node in above.args


class Files(unittest.TestCase):
    def test_the_folder_holds_plain_files_alone(self):
        for path in FILES:
            self.assertTrue(path.is_file() and path.suffix == ".py", path.name)
        self.assertLessEqual(len(FILES), 100)

    def test_sizes_and_characters(self):
        for path in FILES:
            text = path.read_text()
            lines = text.split("\n")
            with self.subTest(path.name):
                self.assertLess(len(lines), 400)
                self.assertLessEqual(max(len(line) for line in lines), 120)
                self.assertEqual([c for c in text if not (" " <= c <= "~" or c == "\n")], [])
                self.assertNotIn("metaclass=", text)

    def test_sizes_of_functions(self):
        for name, node in nodes(ast.FunctionDef):
            self.assertLessEqual(node.end_lineno - node.lineno + 1, 40, f"{name}: {node.name}")
            self.assertTrue(ast.get_docstring(node) or node.name.startswith("__"), f"{name}: {node.name}")

    def test_module_level(self):
        allowed = (ast.ImportFrom, ast.FunctionDef, ast.ClassDef, ast.Assign)
        for name, tree in trees():
            self.assertTrue(ast.get_docstring(tree), name)
            for node in tree.body[1:]:
                self.assertIsInstance(node, allowed, name)


class Imports(unittest.TestCase):
    def test_each_import_names_the_file_that_defines_the_name(self):
        defined = {name.removesuffix(".py"): list(defined_names(tree)) for name, tree in trees()}
        for name, node in nodes(ast.ImportFrom):
            words = [alias.name for alias in node.names]
            known = LIBRARY.get(node.module) or defined.get(node.module.removeprefix("lastingshares."), [])
            self.assertEqual([word for word in words if word not in known], [], name)
            self.assertEqual([alias.asname for alias in node.names if alias.asname], [], name)

    def test_no_two_files_import_from_each_other(self):
        left = {name: [node.module.split(".")[-1] + ".py" for node in ast.walk(tree)
                       if isinstance(node, ast.ImportFrom) and node.module not in LIBRARY] for name, tree in trees()}
        while left:
            ready = [name for name in left if not any(other in left for other in left[name])]
            self.assertTrue(ready, f"a circle among {sorted(left)}")
            left = {name: left[name] for name in left if name not in ready}

    def test_every_import_is_used(self):
        for name, tree in trees():
            used = {node.id for node in ast.walk(tree) if isinstance(node, ast.Name)}
            words = [alias.name for node in tree.body if isinstance(node, ast.ImportFrom) for alias in node.names]
            self.assertEqual([word for word in words if word not in used], [], name)


class Names(unittest.TestCase):
    def test_no_name_has_another_meaning(self):
        for name, tree in trees():
            for word in bound_names(tree):
                self.assertNotIn(word, PYTHON_NAMES, name)
                self.assertNotIn(word, BARRED_NAMES, name)
                self.assertTrue(word == "__slots__" or not word.startswith("__"), f"{name}: {word}")

    def test_no_variable_has_the_name_of_an_import_or_class(self):
        for name, tree in trees():
            taken = [alias.name for node in tree.body if isinstance(node, ast.ImportFrom) for alias in node.names]
            taken += [node.name for node in tree.body if isinstance(node, ast.ClassDef)]
            for node in ast.walk(tree):
                if isinstance(node, ast.arg):
                    self.assertNotIn(node.arg, taken, name)
                elif isinstance(node, ast.Name) and isinstance(node.ctx, ast.Store):
                    self.assertNotIn(node.id, taken, name)

    def test_only_these_builtins_are_used(self):
        for name, node in nodes(ast.Name):
            if node.id in PYTHON_NAMES:
                self.assertIn(node.id, BUILTINS, name)


class Forms(unittest.TestCase):
    def test_what_is_not_used(self):
        for name, node in nodes(NOT_USED):
            self.fail(f"{name}: {node.lineno}: {type(node).__name__}")
        for name, node in nodes(ast.Constant):
            self.assertNotIsInstance(node.value, (float, complex), name)

    def test_lists_stand_in_any_and_the_like(self):
        for name, node in nodes(ast.Call):
            if isinstance(node.func, ast.Name) and node.func.id in WITH_LISTS:
                self.assertNotIsInstance(node.args[0], ast.GeneratorExp, f"{name}: {node.lineno}")

    def test_is_stands_beside_none_true_and_false(self):
        for name, node in nodes(ast.Compare):
            for sign, other in zip(node.ops, node.comparators):
                if isinstance(sign, (ast.Is, ast.IsNot)):
                    self.assertIsInstance(other, ast.Constant, f"{name}: {node.lineno}")

    def test_ranges_and_the_like_are_iterated_at_once(self):
        for name, node, above in beside():
            if called(node) in AT_ONCE and not is_iterated(node, above):
                kept_range = called(node) == "range" and isinstance(above, (ast.Assign, ast.Compare))
                self.assertTrue(kept_range, f"{name}: {node.lineno}")

    def test_reversed_takes_what_is_plainly_no_table(self):
        for name, node in nodes(ast.Call):
            if called(node) == "reversed":
                self.assertIn(called(node.args[0]), ["list", "tuple", "sorted", "range"], f"{name}: {node.lineno}")

    def test_generators_are_iterated_at_once(self):
        names = generators()
        for name, node, above in beside():
            if called(node) in names:
                taken = isinstance(above, ast.YieldFrom) or is_iterated(node, above)
                self.assertTrue(taken and called(above) not in WITH_LISTS, f"{name}: {node.lineno}")
                for part in node.args:
                    self.assertIsInstance(part, (ast.Name, ast.Attribute, ast.Constant, ast.Tuple),
                                          f"{name}: {node.lineno}")
            elif isinstance(node, ast.Name) and node.id in names:
                self.assertTrue(called(above) == node.id and above.func is node, f"{name}: {node.lineno}")

    def test_only_these_methods_of_builtin_values_are_called(self):
        own = {node.name for _, node in nodes(ast.FunctionDef)}
        for name, node in nodes(ast.Call):
            if isinstance(node.func, ast.Attribute) and node.func.attr not in own:
                self.assertTrue(node.func.attr in METHODS or node.func.attr == "__init__", f"{name}: {node.lineno}")

    def test_errors_are_raised_on_the_spot(self):
        for name, node in nodes(ast.Raise):
            self.assertIsInstance(node.exc, ast.Call, f"{name}: {node.lineno}")
            self.assertTrue(called(node.exc)[0].isupper() and node.cause is None, f"{name}: {node.lineno}")

    def test_blocks_end_by_assignments_alone(self):
        found = [(name, node) for name, node in nodes(ast.FunctionDef) if node.name == "__exit__"]
        self.assertTrue(found)
        for name, node in found:
            for part in node.body:
                self.assertIsInstance(part, ast.Assign, f"{name}: {part.lineno}")
                self.assertIsInstance(part.value, ast.Attribute, f"{name}: {part.lineno}")
                self.assertEqual((len(part.targets), called(part.value)), (1, ""))
        self.assertEqual([name for name, node in nodes(ast.Try) if node.finalbody], [])

    def test_no_attribute_has_the_name_of_a_method(self):
        methods = {part.name for _, node in nodes(ast.ClassDef) for part in node.body
                   if isinstance(part, ast.FunctionDef)}
        for name, node in nodes(ast.Attribute):
            if isinstance(node.ctx, ast.Store):
                self.assertNotIn(node.attr, methods, f"{name}: {node.lineno}")

    def test_decorators_stand_over_methods_alone(self):
        for name, tree in trees():
            for node in tree.body:
                if isinstance(node, (ast.FunctionDef, ast.ClassDef)):
                    self.assertEqual(node.decorator_list, [], name)


if __name__ == "__main__":
    unittest.main()

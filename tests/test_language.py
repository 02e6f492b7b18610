"""Rules of the language of the program that a test can see: L1, L2, L4 to L8, L10, L12, L14 to L17, L20, L23 to L28."""

import ast
import builtins
import os
import re
import unittest
import warnings

ROOT = os.path.dirname(os.path.dirname(os.path.abspath(__file__)))
PACKAGE = os.path.join(ROOT, "fingerbooks")
LIBRARY = {
    "heapq": {"heappush", "heappop", "heapify", "heapreplace", "heappushpop"},
    "math": {"gcd", "lcm", "isqrt", "comb", "perm", "factorial"},
    # Not product and its kin: books are iterated over and have a length.
    "itertools": {"chain", "accumulate", "pairwise", "islice", "zip_longest"},
    "collections": {"defaultdict", "deque"},
    "__future__": {"annotations"},
}
BUILTINS = set(
    "len range enumerate zip min max sum abs sorted reversed int str bool bytes list tuple dict set isinstance ord "
    "repr any all divmod pow iter next map getattr hasattr setattr type super property staticmethod classmethod object "
    "Exception ValueError TypeError KeyError IndexError LookupError ZeroDivisionError ArithmeticError OverflowError "
    "RuntimeError NotImplementedError AttributeError StopIteration NotImplemented True False None float".split()
)
DECORATORS = {"property", "staticmethod", "classmethod"}
DOUBLE = re.compile(r"^__")
METHODS = {
    "__init__", "__eq__", "__repr__", "__str__", "__len__", "__enter__", "__exit__", "__call__", "__iter__", "__bool__",
    "__contains__", "__getitem__",
}
PREFIXES = ("_wall", "_pe_", "_dcw_", "_enum_", "_cm_", "_twin_re_", "_lay_", "_law_", "_stub_", "_sre", "_WallAttr")
CHANGES = {
    "append", "extend", "insert", "pop", "remove", "reverse", "clear", "update", "setdefault", "add", "discard",
    "appendleft", "popleft", "extendleft",
}
BUILTIN_METHODS = {name for kind in (str, int, list, dict, set, bytes, tuple) for name in dir(kind)}
BARRED = {
    "register", "mro", "elements", "open", "input", "law", "version_info", "with_traceback", "add_note", "typing",
    "enum", "Enum", "Generic", "Protocol", "ABC", "namedtuple", "NamedTuple", "TypedDict", "dataclass", "overload",
}


def files():
    found = []
    for folder, folders, names in os.walk(PACKAGE):
        folders[:] = sorted(name for name in folders if name != "__pycache__")
        found.extend(os.path.join(folder, name) for name in sorted(names))
    return found


def text_of(path):
    with open(path, encoding="utf-8", newline="") as source:
        return source.read()


def nodes():
    for path in files():
        for node in ast.walk(ast.parse(text_of(path))):
            yield os.path.relpath(path, ROOT), node


class Files(unittest.TestCase):
    def test_there_are_files_of_python_alone(self):
        self.assertTrue(0 < len(files()) <= 100)
        for path in files():
            self.assertRegex(os.path.basename(path), r"^[a-z0-9_]+\.py$")

    def test_each_folder_is_a_package(self):
        for path in files():
            self.assertTrue(os.path.exists(os.path.join(os.path.dirname(path), "__init__.py")), path)

    def test_no_file_beside_a_folder_of_its_name(self):
        for path in files():
            self.assertFalse(os.path.isdir(path[:-3]), path)

    def test_sizes_and_characters(self):
        for path in files():
            text = text_of(path)
            lines = text.split("\n")
            self.assertLessEqual(len(lines) - 1, 399, path)
            self.assertTrue(text.endswith("\n"), path)
            self.assertRegex(text, r"\A[\n -~]*\Z")
            for number, line in enumerate(lines, 1):
                self.assertLessEqual(len(line), 120, f"{path}:{number}")
                self.assertEqual(line, line.rstrip(), f"{path}:{number}")

    def test_python_gives_no_warning(self):
        for path in files():
            with warnings.catch_warnings():
                warnings.simplefilter("error")
                compile(text_of(path), path, "exec")


class Code(unittest.TestCase):
    def test_functions_have_at_most_40_lines(self):
        for path, node in nodes():
            if isinstance(node, ast.FunctionDef):
                self.assertLessEqual(node.end_lineno - node.lineno + 1, 40, f"{path}: {node.name}")

    def test_imports(self):
        for path, node in nodes():
            self.assertNotIsInstance(node, ast.Import, path)
            if isinstance(node, ast.ImportFrom):
                self.assertEqual(node.level, 0, path)
                self.assertEqual([alias.asname for alias in node.names], [None] * len(node.names), path)
                if not node.module.startswith("fingerbooks."):
                    self.assertLessEqual({alias.name for alias in node.names}, LIBRARY.get(node.module, set()), path)

    def test_no_class_is_decorated_and_methods_only_as_allowed(self):
        for path, node in nodes():
            if isinstance(node, ast.ClassDef):
                self.assertEqual(node.decorator_list, [], path)
            if isinstance(node, ast.FunctionDef):
                for decorator in node.decorator_list:
                    allowed = isinstance(decorator, ast.Name) and decorator.id in DECORATORS
                    self.assertTrue(allowed or getattr(decorator, "attr", "") == "setter", f"{path}: {node.name}")

    def test_no_statements_and_values_outside_the_language(self):
        barred = (ast.AsyncFunctionDef, ast.AsyncFor, ast.AsyncWith, ast.Await, ast.Div, ast.MatMult)
        for path, node in nodes():
            self.assertNotIsInstance(node, barred, path)
            if isinstance(node, ast.Constant):
                self.assertNotIsInstance(node.value, (float, complex), f"{path}:{node.lineno}")

    def test_no_other_builtins(self):
        for path, node in nodes():
            if isinstance(node, ast.Name) and hasattr(builtins, node.id):
                self.assertIn(node.id, BUILTINS, f"{path}:{node.lineno}")
                self.assertIsInstance(node.ctx, ast.Load, f"{path}:{node.lineno}")

    def test_plain_names(self):
        for path, node in nodes():
            for name in names_of(node):
                self.assertRegex(name, r"^(_?[A-Za-z][A-Za-z0-9_]*|_|__[a-z]+__)$", path)
                self.assertNotIn(name, BARRED, path)

    def test_generators_are_not_given_to_functions_that_look_at_truth(self):
        # Classes of this package have an __eq__, so these take lists.
        for path, node in nodes():
            if isinstance(node, ast.Call) and isinstance(node.func, ast.Name):
                if node.func.id in ("any", "all", "min", "max", "sum", "sorted"):
                    for argument in node.args:
                        self.assertNotIsInstance(argument, ast.GeneratorExp, f"{path}:{node.lineno}")


    def test_no_name_begins_with_a_barred_word(self):
        for path, node in nodes():
            for name in names_of(node):
                self.assertFalse(name.startswith(PREFIXES), path)

    def test_exponents_are_literals(self):
        for path, node in nodes():
            if isinstance(node, ast.BinOp) and isinstance(node.op, ast.Pow):
                self.assertIsInstance(node.right, ast.Constant, f"{path}:{node.lineno}")

    def test_only_none_true_and_false_are_compared_by_identity(self):
        for path, node in nodes():
            if isinstance(node, ast.Compare):
                for sign, other in zip(node.ops, node.comparators):
                    if isinstance(sign, (ast.Is, ast.IsNot)):
                        self.assertIn(getattr(other, "value", 0), (None, True, False), f"{path}:{node.lineno}")

    def test_lists_are_sorted_by_sorted(self):
        # Classes of this package have an __eq__.
        for path, node in nodes():
            if isinstance(node, ast.Attribute):
                self.assertNotIn(node.attr, ("sort", "format", "intersection", "union"), f"{path}:{node.lineno}")

    def test_strings_have_no_percent_sign(self):
        for path, node in nodes():
            if isinstance(node, ast.Constant) and isinstance(node.value, str):
                self.assertNotIn("%", node.value, f"{path}:{node.lineno}")

    def test_files_do_not_import_from_each_other(self):
        imports = {}
        for path in files():
            module = os.path.relpath(path, ROOT)[:-3].replace(os.sep, ".")
            imports[module] = {
                node.module for node in ast.walk(ast.parse(text_of(path)))
                if isinstance(node, ast.ImportFrom) and node.module.startswith("fingerbooks.")
            }
        while imports:
            free = [module for module, others in imports.items() if not others & set(imports)]
            self.assertTrue(free, f"in a circle: {sorted(imports)}")
            for module in free:
                del imports[module]

    def test_imported_names_and_classes_are_not_assigned(self):
        for path in files():
            tree = ast.parse(text_of(path))
            fixed = {alias.name for node in tree.body if isinstance(node, ast.ImportFrom) for alias in node.names}
            fixed |= {node.name for node in tree.body if isinstance(node, ast.ClassDef)}
            for node in ast.walk(tree):
                if isinstance(node, ast.Name) and isinstance(node.ctx, ast.Store):
                    self.assertNotIn(node.id, fixed, f"{path}:{node.lineno}")
                if isinstance(node, ast.arg):
                    self.assertNotIn(node.arg, fixed | set(dir(builtins)), f"{path}:{node.lineno}")


class Classes(unittest.TestCase):
    def test_double_underscore_methods(self):
        for path, node in nodes():
            if isinstance(node, ast.ClassDef):
                for method in node.body:
                    if isinstance(method, ast.FunctionDef) and DOUBLE.match(method.name):
                        self.assertIn(method.name, METHODS, path)

    def test_what_can_be_indexed_says_whether_it_is_iterated_over(self):
        for path, node in nodes():
            if isinstance(node, ast.ClassDef):
                names = {method.name for method in node.body if isinstance(method, ast.FunctionDef)}
                self.assertTrue("__getitem__" not in names or "__iter__" in names, f"{path}: {node.name}")

    def test_properties_methods_and_builtin_methods_have_different_names(self):
        properties, methods = set(), set()
        for _, node in nodes():
            if isinstance(node, ast.ClassDef):
                for method in node.body:
                    if isinstance(method, ast.FunctionDef):
                        marks = {getattr(mark, "id", "") for mark in method.decorator_list}
                        (properties if "property" in marks else methods).add(method.name)
        stored = {
            node.attr for _, node in nodes() if isinstance(node, ast.Attribute) and isinstance(node.ctx, ast.Store)
        }
        self.assertEqual(properties & (methods | stored), set())
        self.assertEqual(
            (properties | methods) & BUILTIN_METHODS, {name for name in methods if DOUBLE.match(name)} & BUILTIN_METHODS
        )

    def test_attributes_have_other_names_than_methods_of_their_class(self):
        for path, node in nodes():
            if isinstance(node, ast.ClassDef):
                methods = {method.name for method in node.body if isinstance(method, ast.FunctionDef)}
                for part in ast.walk(node):
                    if isinstance(part, ast.Attribute) and isinstance(part.ctx, ast.Store):
                        self.assertNotIn(part.attr, methods, f"{path}:{part.lineno}")


    def test_texts_of_objects_are_written_as_texts(self):
        for path, node in nodes():
            if isinstance(node, ast.FunctionDef) and node.name in ("__str__", "__repr__"):
                for part in ast.walk(node):
                    if isinstance(part, ast.Return):
                        self.assertTrue(is_text(part.value), f"{path}:{part.lineno}")


    def test_blocks_are_left_by_plain_assignments(self):
        for path, node in nodes():
            if isinstance(node, ast.FunctionDef) and node.name == "__exit__":
                names = [argument.arg for argument in node.args.args]
                self.assertEqual(names, ["self", "kind", "value", "trace"], path)
                for statement in node.body:
                    self.assertIsInstance(statement, ast.Assign, f"{path}:{statement.lineno}")
                    self.assertIsNotNone(path_of(statement.value), f"{path}:{statement.lineno}")

    def test_errors_that_are_handled_have_names_of_their_own(self):
        for path, node in nodes():
            if isinstance(node, ast.FunctionDef):
                parts = list(ast.walk(node))
                named = [part.name for part in parts if isinstance(part, ast.ExceptHandler) and part.name]
                others = {part.arg for part in parts if isinstance(part, ast.arg)}
                others |= {part.id for part in parts if isinstance(part, ast.Name) and isinstance(part.ctx, ast.Store)}
                self.assertEqual(len(named), len(set(named)), f"{path}: {node.name}")
                self.assertEqual(set(named) & others, set(), f"{path}: {node.name}")

    def test_plain_values_stand_behind_a_star(self):
        for path, node in nodes():
            if isinstance(node, ast.Call) and any(isinstance(part, ast.Starred) for part in node.args):
                self.assertEqual(node.keywords, [], f"{path}:{node.lineno}")
                for part in node.args:
                    value = part.value if isinstance(part, ast.Starred) else part
                    self.assertIsInstance(value, (ast.Name, ast.Constant), f"{path}:{node.lineno}")

    def test_modules_have_plain_values_alone(self):
        kinds = (
            ast.Constant, ast.Tuple, ast.List, ast.Dict, ast.UnaryOp, ast.BinOp, ast.operator, ast.unaryop, ast.Load,
        )
        for path in files():
            for statement in ast.parse(text_of(path)).body:
                if isinstance(statement, ast.Assign):
                    self.assertEqual([type(target) for target in statement.targets], [ast.Name], path)
                    for part in ast.walk(statement.value):
                        self.assertIsInstance(part, kinds, f"{path}:{statement.lineno}")
                elif isinstance(statement, ast.Expr):
                    self.assertIsInstance(statement.value.value, str, f"{path}:{statement.lineno}")
                else:
                    allowed = (ast.ImportFrom, ast.FunctionDef, ast.ClassDef)
                    self.assertIsInstance(statement, allowed, f"{path}:{statement.lineno}")


class Loops(unittest.TestCase):
    def test_nothing_is_changed_while_it_is_walked(self):
        for path, node in nodes():
            if isinstance(node, ast.FunctionDef):
                same = other_names(node)
                for loop in ast.walk(node):
                    if isinstance(loop, ast.For):
                        walked = {name for begun in walked_names(loop.iter) for name in same.get(begun, {begun})}
                        changed = {name for part in loop.body for name in changed_names(part)}
                        self.assertEqual(walked & changed, set(), f"{path}:{loop.lineno}")


def is_text(value):
    """Whether what is returned is a string, an f-string, str(..), repr(..) or the join of a literal."""
    if isinstance(value, ast.Call):
        if isinstance(value.func, ast.Attribute):
            return value.func.attr == "join" and isinstance(value.func.value, ast.Constant)
        return isinstance(value.func, ast.Name) and value.func.id in ("str", "repr")
    return isinstance(value, ast.JoinedStr) or isinstance(getattr(value, "value", None), str)


def path_of(node):
    """The name of a variable or an attribute like self._rows, None for anything else."""
    if isinstance(node, ast.Attribute):
        ahead = path_of(node.value)
        return None if ahead is None else f"{ahead}.{node.attr}"
    return node.id if isinstance(node, ast.Name) else None


def walked_names(node):
    """What a loop goes over by its name, also through enumerate and its kin."""
    if isinstance(node, ast.Call):
        if isinstance(node.func, ast.Name) and node.func.id in ("enumerate", "zip", "reversed"):
            return [name for part in node.args for name in walked_names(part)]
        if isinstance(node.func, ast.Attribute) and node.func.attr in ("items", "keys", "values"):
            return walked_names(node.func.value)
    if isinstance(node, ast.IfExp):
        return walked_names(node.body) + walked_names(node.orelse)
    if isinstance(node, ast.BoolOp):
        return [name for part in node.values for name in walked_names(part)]
    return [] if path_of(node) is None else [path_of(node)]


def other_names(function):
    """For each name of a function those to which the same thing may be given by a plain assignment."""
    groups = {}
    for node in ast.walk(function):
        if isinstance(node, ast.Assign):
            for name in [path_of(target) for target in node.targets] + walked_names(node.value):
                if walked_names(node.value) and name is not None and not isinstance(node.value, ast.Call):
                    joined = set().union(*(groups.get(part, {part}) for part in walked_names(node.value)))
                    joined |= groups.get(name, {name})
                    groups.update({part: joined for part in joined})
    return groups


def changed_names(statement):
    """What a statement changes by its name."""
    found = set()
    for node in ast.walk(statement):
        if isinstance(node, ast.Call) and isinstance(node.func, ast.Attribute) and node.func.attr in CHANGES:
            found.add(path_of(node.func.value))
        if isinstance(node, ast.Call) and isinstance(node.func, ast.Name) and node.func.id.startswith("heap"):
            found.add(path_of(node.args[0]))
        if isinstance(node, ast.Subscript) and not isinstance(node.ctx, ast.Load):
            found.add(path_of(node.value))
        if isinstance(node, ast.AugAssign):
            found.add(path_of(node.target))
    return found - {None}


def names_of(node):
    """The names that a node uses or defines."""
    found = []
    for attribute in ("id", "name", "attr", "arg"):
        name = getattr(node, attribute, None)
        if isinstance(name, str) and not isinstance(node, ast.alias):
            found.append(name)
    return found


class Docstrings(unittest.TestCase):
    def test_every_module_class_and_function_of_the_interface_tells_what_it_is_for(self):
        for path, node in nodes():
            if isinstance(node, (ast.Module, ast.ClassDef)):
                self.assertTrue(ast.get_docstring(node), path)
            if isinstance(node, ast.FunctionDef) and not DOUBLE.match(node.name):
                self.assertTrue(ast.get_docstring(node), f"{path}: {node.name}")


if __name__ == "__main__":
    unittest.main()

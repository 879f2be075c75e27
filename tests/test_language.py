"""The package's own files keep to the small part of Python that they are to be written in."""

import ast
import builtins
import pathlib
import re
import unittest

PACKAGE = pathlib.Path(__file__).resolve().parent.parent / "openlimits"
FILES = sorted(PACKAGE.glob("*.py"))

OWN_ERRORS = ("Exception", "ValueError", "TypeError", "KeyError", "IndexError", "LookupError", "ZeroDivisionError",
              "ArithmeticError", "OverflowError", "RuntimeError", "NotImplementedError", "AttributeError", "StopIteration")
BUILTINS = ("len", "range", "enumerate", "zip", "min", "max", "sum", "abs", "sorted", "reversed", "int", "str", "bool",
            "list", "tuple", "dict", "set", "frozenset", "isinstance", "ord", "repr", "any", "all", "divmod") + OWN_ERRORS
METHODS = ("append clear copy count endswith extend find get index insert isalnum isalpha isdigit islower isspace isupper "
           "items join keys ljust lower lstrip partition pop remove replace reverse rfind rjust rpartition rsplit rstrip "
           "setdefault split splitlines startswith strip update upper values zfill bit_length").split()
SPECIAL = ("__init__", "__eq__", "__repr__", "__str__", "__len__")
NOT_NAMES = ("register", "mro", "elements", "open", "input", "version_info", "with_traceback", "add_note", "attrgetter",
             "breakpoint", "builtins", "compile", "copyright", "credits", "delattr", "dir", "eval", "exec", "exit", "gc",
             "getattr", "globals", "hasattr", "help", "id", "importlib", "license", "locals", "methodcaller", "os", "quit",
             "setattr", "super", "type", "vars", "sys", "chr", "format", "format_map", "print")
NOT_WORDS = ("type", "typing", "typing_extensions", "enum", "Enum", "IntEnum", "StrEnum", "Flag", "IntFlag", "Generic",
             "Protocol", "ABC", "ABCMeta", "namedtuple", "NamedTuple", "TypedDict", "TYPE_CHECKING", "abstractmethod")
NOT_WITHIN_WORDS = ("dataclass", "overload", "contextmanager")
NODES = (
    ast.Module, ast.Expr, ast.Constant, ast.ImportFrom, ast.alias, ast.FunctionDef, ast.arguments, ast.arg, ast.ClassDef,
    ast.Assign, ast.AugAssign, ast.If, ast.While, ast.For, ast.Return, ast.Break, ast.Continue, ast.Pass, ast.Raise,
    ast.Try, ast.ExceptHandler, ast.Name, ast.Load, ast.Store, ast.Attribute, ast.Subscript, ast.Slice, ast.Call,
    ast.keyword, ast.List, ast.Tuple, ast.Dict, ast.ListComp, ast.comprehension, ast.BinOp, ast.UnaryOp, ast.BoolOp,
    ast.Compare, ast.IfExp, ast.Lambda, ast.JoinedStr, ast.FormattedValue, ast.Add, ast.Sub, ast.Mult, ast.FloorDiv,
    ast.Mod, ast.Pow, ast.USub, ast.Not, ast.And, ast.Or, ast.Eq, ast.NotEq, ast.Lt, ast.LtE, ast.Gt, ast.GtE, ast.Is,
    ast.IsNot, ast.In, ast.NotIn, ast.BitAnd, ast.BitOr, ast.BitXor, ast.LShift, ast.RShift, ast.Invert)


def trees():
    return [(path, ast.parse(path.read_text())) for path in FILES]


def every_node():
    return [(f"{path.name}:{getattr(node, 'lineno', 0)}", node) for path, tree in trees() for node in ast.walk(tree)]


def names_bound(node):
    if isinstance(node, (ast.FunctionDef, ast.ClassDef)):
        return [node.name]
    if isinstance(node, ast.arg):
        return [node.arg]
    if isinstance(node, ast.Name) and isinstance(node.ctx, ast.Store):
        return [node.id]
    return []


def is_plain(node):
    if isinstance(node, (ast.Tuple, ast.List)):
        return all(is_plain(part) for part in node.elts)
    if isinstance(node, ast.Dict):
        return all(is_plain(part) for part in node.keys + node.values)
    return isinstance(node, (ast.Constant, ast.Name))


class FileTest(unittest.TestCase):
    def test_the_folder_holds_files_of_the_package_alone(self):
        for path in PACKAGE.iterdir():
            if path.name != "__pycache__":
                self.assertRegex(path.name, r"^([a-z][a-z0-9_]*|__init__)\.py$")
        self.assertIn(PACKAGE / "__init__.py", FILES)

    def test_signs_and_sizes(self):
        for path in FILES:
            rows = path.read_text().split("\n")
            self.assertLessEqual(len(rows), 400, path.name)
            for number, row in enumerate(rows, start=1):
                self.assertRegex(row, r"^[ -~]{0,120}$", f"{path.name}:{number}")

    def test_functions_are_short(self):
        for place, node in every_node():
            if isinstance(node, ast.FunctionDef):
                self.assertLessEqual(node.end_lineno - node.lineno + 1, 40, place)

    def test_words_that_stand_nowhere(self):
        for path in FILES:
            text = path.read_text()
            for word in NOT_WORDS:
                self.assertIsNone(re.search(rf"\b{word}\b", text), (path.name, word))
            for word in NOT_WITHIN_WORDS:
                self.assertNotIn(word, text, path.name)


class TopTest(unittest.TestCase):
    def test_imports(self):
        modules = {f"openlimits.{path.stem}": tree for path, tree in trees()}
        for path, tree in trees():
            for node in ast.walk(tree):
                if isinstance(node, ast.ImportFrom):
                    self.assertIn(node, tree.body, path.name)
                    self.assertEqual(node.level, 0, path.name)
                    defined = [name for row in modules[node.module].body for name in self.names_of(row)]
                    for alias in node.names:
                        self.assertIsNone(alias.asname)
                        self.assertIn(alias.name, defined, path.name)

    def names_of(self, row):
        if isinstance(row, (ast.FunctionDef, ast.ClassDef)):
            return [row.name]
        return [target.id for target in row.targets] if isinstance(row, ast.Assign) else []

    def test_no_two_files_draw_from_one_another(self):
        drawn = {path.stem: {node.module.split(".")[1] for node in tree.body if isinstance(node, ast.ImportFrom)}
                 for path, tree in trees()}
        self.assertEqual(drawn["__init__"], set())
        while drawn:
            ready = [name for name, others in drawn.items() if not others & set(drawn)]
            self.assertTrue(ready, drawn)
            for name in ready:
                drawn.pop(name)

    def test_what_stands_at_the_top_of_a_file(self):
        for path, tree in trees():
            self.assertIsNotNone(ast.get_docstring(tree), path.name)
            bound = []
            for node in tree.body[1:]:
                self.assertIsInstance(node, (ast.ImportFrom, ast.FunctionDef, ast.ClassDef, ast.Assign), path.name)
                if isinstance(node, ast.Assign):
                    self.assertTrue(is_plain(node.value), f"{path.name}:{node.lineno}")
                    for name in [part.id for part in ast.walk(node.value) if isinstance(part, ast.Name)]:
                        self.assertIn(name, bound, f"{path.name}:{node.lineno}")
                for name in self.names_of(node):
                    self.assertNotIn(name, bound, path.name)
                    bound.append(name)

    def test_lists_and_dicts_of_the_top_hold_none_themselves(self):
        for path, tree in trees():
            for node in tree.body:
                if isinstance(node, ast.Assign) and isinstance(node.value, (ast.List, ast.Dict)):
                    inner = [part for part in ast.walk(node.value) if isinstance(part, (ast.List, ast.Dict))]
                    self.assertEqual(len(inner), 1, f"{path.name}:{node.lineno}")


class NameTest(unittest.TestCase):
    def test_each_name_is_plain(self):
        for place, node in every_node():
            for name in names_bound(node):
                if name not in SPECIAL:
                    self.assertRegex(name, r"^[A-Za-z][A-Za-z0-9_]*$", place)
                    self.assertFalse(hasattr(builtins, name), (place, name))

    def test_names_that_are_not_used(self):
        for place, node in every_node():
            if isinstance(node, ast.Name):
                self.assertNotIn(node.id, NOT_NAMES, place)
                if hasattr(builtins, node.id):
                    self.assertIn(node.id, BUILTINS, place)
            if isinstance(node, ast.Attribute):
                self.assertNotIn(node.attr, NOT_NAMES, place)

    def test_no_local_is_called_like_a_class_or_an_import_of_its_file(self):
        for path, tree in trees():
            taken = [node.name for node in tree.body if isinstance(node, ast.ClassDef)]
            taken += [alias.name for node in tree.body if isinstance(node, ast.ImportFrom) for alias in node.names]
            for node in ast.walk(tree):
                if not isinstance(node, ast.ClassDef):
                    for name in names_bound(node):
                        self.assertNotIn(name, taken, path.name)

    def test_no_name_is_a_method_and_a_value(self):
        methods = {part.name for place, node in every_node() if isinstance(node, ast.ClassDef)
                   for part in node.body if isinstance(part, ast.FunctionDef)}
        values = {node.attr for place, node in every_node() if isinstance(node, ast.Attribute) and isinstance(node.ctx, ast.Store)}
        self.assertEqual(methods & values, set())
        python = {name for kind in (str, int, list, dict, set, bytes, tuple) for name in dir(kind)}
        self.assertEqual((methods - set(SPECIAL)) & python, set())
        self.assertEqual(values & python, set())

    def test_methods_are_the_package_s_own_or_those_allowed(self):
        own = {part.name for place, node in every_node() if isinstance(node, ast.ClassDef)
               for part in node.body if isinstance(part, ast.FunctionDef)}
        for place, node in every_node():
            if isinstance(node, ast.Call) and isinstance(node.func, ast.Attribute):
                self.assertIn(node.func.attr, own | set(METHODS), place)


class FormTest(unittest.TestCase):
    def test_only_the_forms_allowed(self):
        for place, node in every_node():
            self.assertIsInstance(node, NODES, place)

    def test_statements(self):
        for place, node in every_node():
            if isinstance(node, (ast.While, ast.For)):
                self.assertEqual(node.orelse, [], place)
            if isinstance(node, ast.Assign):
                self.assertEqual(len(node.targets), 1, place)
                self.assertNotIsInstance(node.targets[0], (ast.Tuple, ast.List), place)
            if isinstance(node, ast.Try):
                self.assertEqual(node.finalbody, [], place)
            if isinstance(node, ast.ListComp):
                self.assertEqual(len(node.generators), 1, place)
                self.assertLessEqual(len(node.generators[0].ifs), 1, place)

    def test_a_row_by_itself_is_a_call_or_the_file_s_docstring(self):
        for path, tree in trees():
            for node in ast.walk(tree):
                if isinstance(node, ast.Expr) and node != tree.body[0]:
                    self.assertIsInstance(node.value, ast.Call, f"{path.name}:{node.lineno}")

    def test_functions(self):
        for place, node in every_node():
            if isinstance(node, ast.FunctionDef):
                self.assertEqual(node.decorator_list, [], place)
                self.assertIsNone(node.returns, place)
            if isinstance(node, ast.arguments):
                self.assertEqual((node.vararg, node.kwarg, node.kwonlyargs, node.posonlyargs), (None, None, [], []), place)
            if isinstance(node, ast.arg):
                self.assertIsNone(node.annotation, place)

    def test_classes(self):
        for path, tree in trees():
            self.assertEqual([node for node in ast.walk(tree) if isinstance(node, ast.ClassDef) and node not in tree.body], [])
        for place, node in every_node():
            if isinstance(node, ast.ClassDef):
                self.assertEqual((node.decorator_list, node.keywords), ([], []), place)
                self.assertLessEqual(len(node.bases), 1, place)
                for part in node.body:
                    self.assertIsInstance(part, (ast.FunctionDef, ast.Pass), place)

    def test_values(self):
        for place, node in every_node():
            if isinstance(node, ast.Constant):
                self.assertIn(type(node.value), (int, str, bool, type(None)), place)
                if isinstance(node.value, str):
                    self.assertNotIn("%", node.value, place)
            if isinstance(node, ast.Compare):
                for operator, right in zip(node.ops, node.comparators):
                    if isinstance(operator, (ast.Is, ast.IsNot)):
                        self.assertTrue(isinstance(right, ast.Constant) and right.value in (None, True, False), place)

    def test_errors(self):
        classes = {node.name for place, node in every_node() if isinstance(node, ast.ClassDef)}
        for place, node in every_node():
            if isinstance(node, ast.Raise):
                self.assertIsInstance(node.exc, ast.Call, place)
                self.assertIn(node.exc.func.id, classes, place)
            if isinstance(node, ast.ExceptHandler):
                self.assertIsInstance(node.type, ast.Name, place)
                self.assertIn(node.type.id, classes | {"KeyError", "ZeroDivisionError", "StopIteration"}, place)


class UseTest(unittest.TestCase):
    def nodes_with_parents(self):
        for path, tree in trees():
            for parent in ast.walk(tree):
                for node in ast.iter_child_nodes(parent):
                    yield f"{path.name}:{getattr(node, 'lineno', 0)}", node, parent

    def is_call_of(self, node, names):
        return isinstance(node, ast.Call) and isinstance(node.func, ast.Name) and node.func.id in names

    def test_keywords(self):
        allowed = {"sorted": ("key", "reverse"), "min": ("key", "default"), "max": ("key", "default"), "sum": ("start",),
                   "enumerate": ("start",), "zip": ("strict",)}
        for place, node in every_node():
            if isinstance(node, ast.Call):
                for keyword in node.keywords:
                    self.assertIsInstance(node.func, ast.Name, place)
                    self.assertIn(keyword.arg, allowed.get(node.func.id, ()), place)
                    if keyword.arg == "key":
                        self.assertIsInstance(keyword.value, ast.Lambda, place)

    def test_what_is_walked_at_once(self):
        for place, node, parent in self.nodes_with_parents():
            method = node.func.attr if isinstance(node, ast.Call) and isinstance(node.func, ast.Attribute) else ""
            if self.is_call_of(node, ("range", "zip", "enumerate", "reversed")) or method in ("items", "keys", "values"):
                walked = isinstance(parent, (ast.For, ast.comprehension)) and parent.iter == node
                first = self.is_call_of(parent, ("list", "tuple", "dict", "sorted", "sum", "any", "all", "enumerate", "zip"))
                self.assertTrue(walked or (first and parent.args[0] == node), place)

    def test_what_a_loop_walks_is_not_changed_in_it(self):
        changing = ("append", "clear", "extend", "insert", "pop", "remove", "reverse", "setdefault", "update")
        for place, node in every_node():
            if isinstance(node, ast.For):
                walked = [ast.dump(part) for part in ast.walk(node.iter) if isinstance(part, (ast.Name, ast.Attribute))]
                for part in [inner for row in node.body for inner in ast.walk(row)]:
                    if isinstance(part, ast.Call) and isinstance(part.func, ast.Attribute) and part.func.attr in changing:
                        self.assertNotIn(ast.dump(part.func.value), walked, place)
                    if isinstance(part, ast.Subscript) and isinstance(part.ctx, ast.Store):
                        self.assertNotIn(ast.dump(part.value), walked, place)

    def test_python_s_own_are_called_and_not_kept(self):
        for place, node, parent in self.nodes_with_parents():
            if isinstance(node, ast.Name) and node.id in BUILTINS and node.id not in OWN_ERRORS:
                self.assertTrue(isinstance(parent, ast.Call) and parent.func == node, place)
            if isinstance(node, ast.Attribute) and node.attr in METHODS:
                self.assertTrue(isinstance(parent, ast.Call) and parent.func == node, place)

    def test_no_sets_and_no_powers(self):
        for place, node in every_node():
            self.assertNotIsInstance(node, (ast.Set, ast.SetComp, ast.Pow), place)
            self.assertFalse(self.is_call_of(node, ("set", "frozenset")), place)

    def test_lists_and_dicts_of_the_top_are_only_read(self):
        names = {target.id for path, tree in trees() for row in tree.body if isinstance(row, ast.Assign)
                 and isinstance(row.value, (ast.List, ast.Dict)) for target in row.targets}
        self.assertIn("LAND_CALLS", names)
        for place, node, parent in self.nodes_with_parents():
            if isinstance(node, ast.Name) and node.id in names and isinstance(node.ctx, ast.Load):
                indexed = isinstance(parent, ast.Subscript) and parent.value == node and isinstance(parent.ctx, ast.Load)
                asked = isinstance(parent, ast.Compare) and node in parent.comparators
                self.assertTrue(indexed or asked, place)

    def test_no_two_lambdas_on_one_row(self):
        rows = [place for place, node in every_node() if isinstance(node, ast.Lambda)]
        self.assertEqual(len(rows), len(set(rows)))

    def test_classes_are_called_raised_or_taken_alone(self):
        classes = {node.name for place, node in every_node() if isinstance(node, ast.ClassDef)}
        for place, node, parent in self.nodes_with_parents():
            if isinstance(node, ast.Name) and node.id in classes:
                called = isinstance(parent, ast.Call) and parent.func == node
                self.assertTrue(called or isinstance(parent, (ast.ExceptHandler, ast.ClassDef)), place)


if __name__ == "__main__":
    unittest.main()

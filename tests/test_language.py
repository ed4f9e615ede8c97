"""The package keeps to the rules of the language that can be seen in its files.

These checks are narrower than the rules where the package does not need more.
"""

import ast
import builtins
import keyword
import pathlib
import re
import unittest

FOLDER = pathlib.Path(__file__).resolve().parent.parent / "wordsalike"
BUILTINS = {
    "len", "range", "enumerate", "zip", "min", "max", "sum", "abs", "sorted", "reversed", "int", "str", "bool", "list",
    "tuple", "dict", "set", "isinstance", "ord", "repr", "any", "all", "divmod", "ValueError", "TypeError",
    "LookupError", "NotImplemented", "property", "staticmethod", "classmethod", "super",
}
METHODS = {
    "append", "clear", "copy", "count", "endswith", "extend", "find", "get", "index", "insert", "isalnum", "isalpha",
    "isdigit", "islower", "isspace", "isupper", "items", "join", "keys", "ljust", "lower", "lstrip", "partition", "pop",
    "remove", "replace", "reverse", "rfind", "rjust", "rpartition", "rsplit", "rstrip", "setdefault", "split",
    "splitlines", "startswith", "strip", "update", "upper", "values", "zfill", "bit_length",
}
SPECIAL = {
    "__init__", "__eq__", "__repr__", "__str__", "__len__", "__call__", "__iter__", "__contains__", "__getitem__",
    "__add__", "__sub__", "__mul__", "__pow__", "__and__", "__or__", "__xor__", "__lshift__", "__rshift__", "__neg__",
    "__invert__", "__bool__",
}
UNUSED_NAMES = {
    "register", "mro", "elements", "open", "input", "law", "version_info", "with_traceback", "add_note", "attrgetter",
    "compile", "dir", "eval", "exec", "exit", "gc", "getattr", "globals", "hasattr", "help", "id", "license", "locals",
    "os", "quit", "setattr", "super", "type", "vars", "sys", "iter", "next", "map", "format", "keys", "args",
}
UNUSED_WORDS = re.compile(
    r"\b(typing|enum|Enum|Generic|Protocol|ABC|ABCMeta|namedtuple|abstractmethod|_wall|_WallAttr)\b"
    r"|dataclass|overload|contextmanager|\(type\)|Meta|metaclass=")
STATEMENTS = (
    ast.Assign, ast.AugAssign, ast.If, ast.While, ast.For, ast.Return, ast.Break, ast.Continue, ast.Raise, ast.Expr,
    ast.FunctionDef, ast.ClassDef, ast.ImportFrom, ast.Delete, ast.Assert, ast.Pass, ast.Try,
)
CHANGING = {"append", "clear", "extend", "insert", "pop", "remove", "reverse", "setdefault", "sort", "update"}
EXPRESSIONS_LEFT_OUT = (
    ast.Lambda, ast.GeneratorExp, ast.SetComp, ast.Set, ast.NamedExpr, ast.Await, ast.YieldFrom, ast.Div, ast.MatMult,
)


def trees():
    return {path: ast.parse(path.read_text()) for path in sorted(FOLDER.glob("*.py"))}


def functions_of(tree):
    return [node for node in ast.walk(tree) if isinstance(node, ast.FunctionDef)]


def docstrings_of(tree):
    owners = [node for node in ast.walk(tree) if isinstance(node, (ast.Module, ast.ClassDef, ast.FunctionDef))]
    return {id(node.body[0].value) for node in owners if ast.get_docstring(node, clean=False) is not None}


def parameters_of(function):
    told = function.args
    return [argument.arg for argument in (*told.posonlyargs, *told.args, *told.kwonlyargs)]


class FileTests(unittest.TestCase):
    def test_files(self):
        for path in FOLDER.iterdir():
            if path.name != "__pycache__":
                self.assertRegex(path.name, r"^[a-z_][a-z0-9_]*\.py$")

    def test_lines(self):
        for path in trees():
            text = path.read_text()
            self.assertTrue(all(character == "\n" or " " <= character <= "~" for character in text), path)
            self.assertLessEqual(text.count("\n"), 399, path)
            self.assertTrue(all(len(line) <= 120 for line in text.split("\n")), path)
            self.assertIsNone(UNUSED_WORDS.search(text), path)

    def test_functions_are_short_and_told(self):
        for path, tree in trees().items():
            for function in functions_of(tree):
                self.assertLessEqual(function.end_lineno - function.lineno + 1, 40, (path, function.name))
                if not function.name.startswith("__"):
                    self.assertIsNotNone(ast.get_docstring(function), (path, function.name))


class ModuleTests(unittest.TestCase):
    def test_module_level(self):
        for path, tree in trees().items():
            imports_end = False
            for at, node in enumerate(tree.body):
                if at == 0:
                    self.assertIsNotNone(ast.get_docstring(tree), path)
                elif isinstance(node, ast.ImportFrom):
                    self.assertFalse(imports_end, path)
                    self.assertEqual(node.level, 0)
                    self.assertRegex(node.module, r"^wordsalike\.[a-z_]+$")
                    self.assertTrue(all(name.asname is None and name.name != "*" for name in node.names))
                else:
                    imports_end = True
                    self.assertIsInstance(node, (ast.FunctionDef, ast.ClassDef, ast.Assign), path)
                    if isinstance(node, ast.Assign):
                        self.assertEqual(len(node.targets), 1)
                        self.assertIsInstance(node.targets[0], ast.Name)
                        self.assert_plain(node.value, path)

    def assert_plain(self, value, path):
        allowed = (ast.Constant, ast.Tuple, ast.Dict, ast.BinOp, ast.UnaryOp, ast.Load, ast.operator, ast.unaryop)
        for node in ast.walk(value):
            self.assertIsInstance(node, allowed, path)

    def test_names_are_bound_once_and_used(self):
        for path, tree in trees().items():
            bound = []
            for node in tree.body:
                if isinstance(node, ast.ImportFrom):
                    names = [name.name for name in node.names]
                    bound.extend(names)
                    used = {part.id for part in ast.walk(tree) if isinstance(part, ast.Name)}
                    self.assertLessEqual(set(names), used, path)
                elif isinstance(node, (ast.FunctionDef, ast.ClassDef)):
                    bound.append(node.name)
                elif isinstance(node, ast.Assign):
                    bound.append(node.targets[0].id)
            self.assertEqual(len(bound), len(set(bound)), path)

    def test_imports_name_the_defining_file_and_make_no_circle(self):
        needed = {}
        for path, tree in trees().items():
            imports = [node for node in tree.body if isinstance(node, ast.ImportFrom)]
            needed[path.stem] = {node.module.split(".")[1] for node in imports}
            for node in imports:
                other = ast.parse((FOLDER / (node.module.split(".")[1] + ".py")).read_text())
                defined = {part.name for part in other.body if isinstance(part, (ast.FunctionDef, ast.ClassDef))}
                defined |= {part.targets[0].id for part in other.body if isinstance(part, ast.Assign)}
                self.assertLessEqual({name.name for name in node.names}, defined, path)
        while needed:
            ready = [name for name in needed if not needed[name] & set(needed)]
            self.assertTrue(ready, needed)
            for name in ready:
                del needed[name]


class CodeTests(unittest.TestCase):
    def test_statements_and_expressions(self):
        for path, tree in trees().items():
            for node in ast.walk(tree):
                if isinstance(node, ast.stmt):
                    self.assertIsInstance(node, STATEMENTS, path)
                self.assertNotIsInstance(node, EXPRESSIONS_LEFT_OUT, path)
                if isinstance(node, ast.Compare) and isinstance(node.ops[0], (ast.Is, ast.IsNot)):
                    self.assertIsInstance(node.comparators[0], ast.Constant, path)
                if isinstance(node, ast.AugAssign):
                    self.assertIsInstance(node.op, ast.Add)
                if isinstance(node, ast.BinOp) and isinstance(node.op, ast.Pow):
                    self.assertIsInstance(node.right, ast.Constant)
                    self.assertTrue(0 <= node.right.value <= 64)
                if isinstance(node, ast.Expr) and not isinstance(node.value, (ast.Constant, ast.Call, ast.Yield)):
                    self.fail((path, node.lineno))

    def test_constants(self):
        for path, tree in trees().items():
            docstrings = docstrings_of(tree)
            for node in ast.walk(tree):
                if isinstance(node, ast.Constant):
                    self.assertIsInstance(node.value, (int, str, type(None)), (path, node.lineno))
                if isinstance(node, ast.Constant) and isinstance(node.value, str):
                    self.assertNotIn(chr(37), node.value, path)
                    if id(node) not in docstrings:
                        self.assertNotIn("__", node.value, path)

    def test_names(self):
        for path, tree in trees().items():
            modules = {node.name for node in tree.body if isinstance(node, ast.ClassDef)}
            for node in tree.body:
                if isinstance(node, ast.ImportFrom):
                    modules |= {name.name for name in node.names}
            for function in functions_of(tree):
                own = set(parameters_of(function))
                own |= {node.id for node in ast.walk(function)
                        if isinstance(node, ast.Name) and isinstance(node.ctx, ast.Store)}
                self.assertFalse(own & modules, (path, function.name))
                for name in (*own, function.name):
                    self.assertFalse(name in dir(builtins) or keyword.iskeyword(name), (path, name))
                    self.assertNotIn(name, UNUSED_NAMES, path)
                    special = name in SPECIAL
                    self.assertTrue(special or re.fullmatch(r"_?[A-Za-z][A-Za-z0-9_]*|_", name), (path, name))
            for node in ast.walk(tree):
                if isinstance(node, ast.Name) and isinstance(node.ctx, ast.Load) and node.id in dir(builtins):
                    self.assertIn(node.id, BUILTINS, (path, node.lineno))

    def test_functions(self):
        for path, tree in trees().items():
            for function in functions_of(tree):
                self.assertIsNone(function.returns)
                self.assertTrue(all(argument.annotation is None for argument in function.args.args))
                self.assertIsNone(function.args.kwarg)
                if function.args.vararg is not None:
                    self.assertEqual((path.stem, function.name), ("stores", "__init__"))
                defaults = [*function.args.defaults, *[d for d in function.args.kw_defaults if d is not None]]
                self.assertTrue(all(isinstance(default, ast.Constant) for default in defaults))
                inner = [node for node in ast.walk(function) if isinstance(node, ast.FunctionDef)]
                self.assertEqual(inner, [function], path)
            for node in tree.body:
                if isinstance(node, ast.FunctionDef):
                    self.assertEqual(node.decorator_list, [])

    def test_aggregates_take_lists(self):
        for path, tree in trees().items():
            for node in ast.walk(tree):
                if isinstance(node, ast.Call) and isinstance(node.func, ast.Name) and node.func.id == "reversed":
                    self.assertIsInstance(node.args[0], ast.Call, path)
                    self.assertIn(node.args[0].func.id, ("list", "tuple", "sorted", "range"))
                if isinstance(node, ast.Starred) and isinstance(node.value, ast.Call):
                    self.assertNotIn(getattr(node.value.func, "id", ""), ("range", "zip", "enumerate", "reversed"), path)
                if isinstance(node, ast.Raise):
                    self.assertIsInstance(node.exc, ast.Call, path)
                    self.assertIsInstance(node.exc.func, ast.Name, path)


class ClassTests(unittest.TestCase):
    def classes(self):
        return [(path, node) for path, tree in trees().items() for node in tree.body if isinstance(node, ast.ClassDef)]

    def test_bodies(self):
        for path, node in self.classes():
            self.assertEqual(node.decorator_list, [])
            names = []
            for at, part in enumerate(node.body):
                if at == 0:
                    self.assertIsNotNone(ast.get_docstring(node), (path, node.name))
                    continue
                self.assertIsInstance(part, (ast.FunctionDef, ast.Assign), (path, node.name))
                names.append(part.name if isinstance(part, ast.FunctionDef) else part.targets[0].id)
                for decorator in getattr(part, "decorator_list", []):
                    self.assertIn(decorator.id, ("property", "classmethod", "staticmethod"))
            self.assertEqual(len(names), len(set(names)))
            if "__getitem__" in names:
                self.assertIn("__iter__", names)

    def test_attributes_are_of_the_package(self):
        known = set(METHODS)
        for _, node in self.classes():
            for part in ast.walk(node):
                if isinstance(part, ast.FunctionDef):
                    known.add(part.name)
                if isinstance(part, ast.Attribute) and isinstance(part.ctx, ast.Store):
                    known.add(part.attr)
            # Class values.
            known |= {part.targets[0].id for part in node.body if isinstance(part, ast.Assign)}
        for path, tree in trees().items():
            for part in ast.walk(tree):
                if isinstance(part, ast.Attribute):
                    self.assertIn(part.attr, known, (path, part.lineno))
                    above = isinstance(part.value, ast.Call) and ast.unparse(part.value) == "super()"
                    self.assertEqual(part.attr.startswith("__"), above, (path, part.lineno))
                    self.assertTrue(not above or part.attr == "__init__", (path, part.lineno))

    def test_no_name_is_a_method_and_an_attribute(self):
        for path, node in self.classes():
            methods = {part.name for part in node.body if isinstance(part, ast.FunctionDef)}
            stored = {part.attr for part in ast.walk(node)
                      if isinstance(part, ast.Attribute) and isinstance(part.ctx, ast.Store)}
            self.assertFalse(methods & stored, (path, node.name))
            free = set(dir(str)) | set(dir(int)) | set(dir(list)) | set(dir(dict)) | set(dir(set))
            own = {name for name in methods | stored if not name.startswith("__")}
            self.assertLessEqual(own & free, {"count", "index", "add", "copy"}, (path, node.name))

    def test_some_methods_are_one_return(self):
        for path, node in self.classes():
            for part in node.body:
                if isinstance(part, ast.FunctionDef) and part.name in ("__str__", "__len__", "__bool__", "__eq__"):
                    self.assertEqual([type(row) for row in part.body], [ast.Return], (path, part.name))
                if isinstance(part, ast.FunctionDef) and part.name == "__iter__":
                    self.assertEqual([type(row) for row in part.body], [ast.Raise], path)

    def test_operators_change_nothing(self):
        for path, node in self.classes():
            for part in node.body:
                if isinstance(part, ast.FunctionDef) and part.name in SPECIAL - {"__init__", "__call__"}:
                    for inner in ast.walk(part):
                        self.assertNotIsInstance(inner, ast.AugAssign, (path, part.name))
                        if isinstance(inner, (ast.Attribute, ast.Subscript)):
                            self.assertIsInstance(inner.ctx, ast.Load, (path, part.name))

    def test_no_other_thing_has_the_name_of_a_property_or_a_generator(self):
        properties, methods, stored, yielding = set(), [], set(), []
        for path, tree in trees().items():
            for node in ast.walk(tree):
                if isinstance(node, ast.FunctionDef):
                    methods.append(node.name)
                    if any(getattr(told, "id", "") == "property" for told in node.decorator_list):
                        properties.add(node.name)
                    if any(isinstance(part, ast.Yield) for part in ast.walk(node)):
                        yielding.append(node.name)
                if isinstance(node, ast.Attribute) and isinstance(node.ctx, ast.Store):
                    stored.add(node.attr)
        self.assertFalse(properties & stored)
        self.assertEqual([methods.count(name) for name in yielding], [1] * len(yielding))
        self.assertFalse(set(yielding) & stored)
        plain = [name for path, tree in trees().items() for node in ast.walk(tree) if isinstance(node, ast.FunctionDef)
                 and not node.decorator_list for name in [node.name]]
        self.assertFalse(properties & set(plain))


class PureTests(unittest.TestCase):
    """Operators, properties and the like change nothing, and neither does what they call."""

    def reached(self):
        """The functions and methods that run when an operator, a property and the like does."""
        named = {}
        for path, tree in trees().items():
            for owner in [tree, *[node for node in tree.body if isinstance(node, ast.ClassDef)]]:
                for node in owner.body:
                    if isinstance(node, ast.FunctionDef):
                        named.setdefault(node.name, []).append((path, node))
        waiting = [found for name in named for found in named[name] if name in SPECIAL - {"__init__", "__call__", "__iter__"}
                   or any(getattr(told, "id", "") == "property" for told in found[1].decorator_list)]
        seen = []
        while waiting:
            path, function = waiting.pop()
            if function in [other for _, other in seen]:
                continue
            seen.append((path, function))
            for node in ast.walk(function):
                if isinstance(node, ast.Call):
                    name = node.func.id if isinstance(node.func, ast.Name) else getattr(node.func, "attr", "")
                    waiting.extend(named.get(name, []))
        return seen

    def own_lists(self, function):
        """The local names that are assigned nothing but new lists or dicts."""
        found, others = set(), set(parameters_of(function))
        for node in ast.walk(function):
            if isinstance(node, ast.Assign):
                for target in node.targets:
                    if isinstance(target, ast.Name):
                        called = isinstance(node.value, ast.Call) and isinstance(node.value.func, ast.Name)
                        fresh = isinstance(node.value, (ast.List, ast.ListComp, ast.Dict))
                        fresh = fresh or called and node.value.func.id in ("list", "dict", "sorted")
                        (found if fresh else others).add(target.id)
        return found - others

    def test_they_change_nothing(self):
        reached = self.reached()
        self.assertGreater(len(reached), 100)
        for path, function in reached:
            own = self.own_lists(function)
            for node in ast.walk(function):
                place = (path, function.name, getattr(node, "lineno", 0))
                if isinstance(node, ast.Attribute):
                    self.assertIsInstance(node.ctx, ast.Load, place)
                if isinstance(node, ast.Subscript) and not isinstance(node.ctx, ast.Load):
                    self.assertIn(getattr(node.value, "id", ""), own, place)
                if isinstance(node, ast.AugAssign):
                    self.assertIsInstance(node.target, ast.Name, place)
                    self.assertIsInstance(node.value, ast.Constant, place)
                if isinstance(node, ast.Call) and isinstance(node.func, ast.Attribute) and node.func.attr in CHANGING:
                    self.assertIn(getattr(node.func.value, "id", ""), own, place)
                if isinstance(node, ast.Call) and isinstance(node.func, ast.Name):
                    self.assertNotIn(node.func.id, parameters_of(function), place)


class ErrorTests(unittest.TestCase):
    def test_only_own_errors_are_caught(self):
        own = {node.name for node in trees()[FOLDER / "errors.py"].body if isinstance(node, ast.ClassDef)}
        for path, tree in trees().items():
            for node in ast.walk(tree):
                if isinstance(node, ast.ExceptHandler):
                    told = node.type.elts if isinstance(node.type, ast.Tuple) else [node.type]
                    self.assertLessEqual({kind.id for kind in told}, own, path)
                    self.assertIsNone(node.name)

    def test_finally(self):
        for path, tree in trees().items():
            for node in ast.walk(tree):
                if isinstance(node, ast.Try) and node.finalbody:
                    self.assertEqual(path.stem, "stores")
                    for part in [inner for row in node.finalbody for inner in ast.walk(row)]:
                        self.assertNotIsInstance(part, (ast.BinOp, ast.Return, ast.Raise, ast.Subscript, ast.AugAssign), path)
                        if isinstance(part, ast.Call):
                            self.assertEqual(part.func.attr, "append")
                        if isinstance(part, ast.If):
                            self.assertIsInstance(part.test.ops[0], ast.Is)

    def test_texts_with_values_stand_on_one_line(self):
        for path, tree in trees().items():
            for node in ast.walk(tree):
                if isinstance(node, ast.JoinedStr):
                    self.assertEqual(node.lineno, node.end_lineno, path)
                    for part in ast.walk(node):
                        if isinstance(part, ast.FormattedValue):
                            inside = [inner for inner in ast.walk(part.value) if isinstance(inner, ast.Constant)]
                            self.assertFalse([inner for inner in inside if isinstance(inner.value, str)], path)


if __name__ == "__main__":
    unittest.main()

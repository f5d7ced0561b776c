"""The form of the package: what shared/LANGUAGE.md asks of its files and can be seen simply."""

import ast
import builtins
import importlib
import inspect
import pathlib
import unittest
import warnings

PACKAGE = pathlib.Path(__file__).resolve().parent.parent / "planfirst"
FILES = sorted(PACKAGE.rglob("*.py"))
TREES = {path: ast.parse(path.read_text(encoding="utf-8")) for path in FILES}

# Of the interface, what has landed: a module's functions with their parameters as they are written, and its classes
# with those of their methods that are told ("" stands for what is called to make one).
INTERFACE = {
    "values": {
        "Unknown": {}, "is_known": "(value)", "agrees": "(planned, value)", "same": "(one, other)",
    },
    "expressions": {"reckon": "(expression, names)"},
    "kinds": {"Kind": {"": "(name, given, made, *, single=None, holds=())"}},
    "configs": {
        "Block": {
            "": "(kind, name, attributes, *, many=None, after=(), first=False, never=False, ignored=(), replaced_by=(),"
                " ahead=None)",
        },
        "Reading": {"": "(kind, name, question, *, after=())"},
        "Call": {"": "(name, config, arguments, *, after=())"},
        "Move": {"": "(old, new)"},
        "Config": {"": "(*, params=(), blocks=(), readings=(), calls=(), outputs=(), moves=())"},
    },
    "layout": {"needs": "(config, kinds)"},
    "worlds": {
        "World": {
            "": "(kinds)", "things": "(self)", "read": "(self, tag)", "copy": "(self)", "make": "(self, kind, given)",
            "change": "(self, tag, given)", "destroy": "(self, tag)", "alter": "(self, tag, attribute, value)",
        },
    },
    "states": {
        "Object": {"": "(tag, attributes, tainted, needs, first)"},
        "State": {"": "(objects, deposed, outputs, serial)"},
        "empty": "()", "take_in": "(state, world, address, tag)", "taint": "(state, address)",
        "untaint": "(state, address)",
    },
    "stores": {
        "Store": {
            "": "(state)", "kept": "(self)", "lock": "(self, holder)", "unlock": "(self, holder)",
            "write": "(self, holder, state)",
        },
    },
    "moves": {"moved": "(state, config)"},
    "refreshing": {"refreshed": "(state, world)"},
    "plans": {
        "Plan": {"": None},
        "plan": "(config, values, kinds, state, world, *, replace=(), targets=None, destroy=False)",
        "is_empty": "(plan)",
    },
    "reasons": {"causes": "(plan, address)", "why": "(plan, address)"},
    "orders": {
        "steps": "(plan)", "ring": "(plan)", "rows": "(plan)", "rounds": "(plan)", "longest": "(plan)",
        "is_order": "(plan, thing)", "first_marks": "(plan)",
    },
    "applies": {
        "apply": "(plan, state, world, *, order=None, fails=None, until=None)", "Outcome": {"": "(state, ends)"},
    },
    "failures": {"left": "(plan, failed)", "stops": "(plan)", "lost": "(plan, state, world, done)"},
    "settling": {
        "alike": "(state, world, other, its_world)", "settles": "(config, values, kinds, state, world)",
    },
    "impacts": {"impact": "(config, values, kinds, state, world, param)"},
    "staging": {"stages": "(config, values, kinds, state, world)"},
}
# What may be imported from outside the package, and is only called there.
LIBRARY = {"itertools": ("combinations",)}
BARRED = (
    ast.AsyncFunctionDef, ast.AsyncFor, ast.AsyncWith, ast.Await, ast.Div, ast.MatMult, ast.Import, ast.Global,
    ast.GeneratorExp, ast.With, ast.Match, ast.Set, ast.SetComp, ast.Yield, ast.YieldFrom, ast.NamedExpr,
)
METHODS = ("__init__", "__eq__", "__repr__", "__str__", "__len__")
BUILTINS = (
    "len", "range", "enumerate", "zip", "min", "max", "sum", "abs", "sorted", "reversed", "int", "str", "bool", "list",
    "tuple", "dict", "set", "isinstance", "repr", "any", "all", "super", "type", "ValueError", "None", "True", "False",
)
# The methods of built-in values that the package calls, all of them among those that may be called.
CALLED = (
    "append", "count", "endswith", "extend", "find", "get", "index", "insert", "items", "join", "pop", "remove",
    "replace", "setdefault", "split", "startswith", "strip", "update", "values", "keys",
)


def scope_names(function):
    """The names that a function (and what is nested in it) binds: parameters and variables."""
    names = [node.arg for node in ast.walk(function) if isinstance(node, ast.arg)]
    return names + [node.id for node in ast.walk(function) if isinstance(node, ast.Name) and is_bound(node)]


def is_bound(node):
    return isinstance(node.ctx, ast.Store)


def of_sort(tree, *sorts):
    return [node for node in ast.walk(tree) if isinstance(node, sorts)]


class Form(unittest.TestCase):
    def test_only_python_files(self):
        for path in PACKAGE.rglob("*"):
            if "__pycache__" not in path.parts and not path.is_dir():
                self.assertIn(path, FILES)
        self.assertIn(PACKAGE / "__init__.py", FILES)
        self.assertLessEqual(len(FILES), 100)

    def test_lines_and_signs(self):
        for path in FILES:
            text = path.read_text(encoding="utf-8")
            self.assertLessEqual(len(text.splitlines()), 399, path)
            for line in text.splitlines():
                self.assertLessEqual(len(line), 120, path)
                self.assertTrue(all(" " <= sign <= "~" for sign in line), (path, line))

    def test_no_warnings(self):
        for path in FILES:
            with warnings.catch_warnings():
                warnings.simplefilter("error")
                compile(path.read_text(encoding="utf-8"), str(path), "exec")

    def test_functions_are_short_and_plain(self):
        for path, tree in TREES.items():
            for node in ast.walk(tree):
                self.assertNotIsInstance(node, BARRED, (path, getattr(node, "lineno", 0)))
                if isinstance(node, ast.FunctionDef):
                    self.assertLessEqual(node.end_lineno - node.lineno + 1, 40, (path, node.name))
                    self.assertEqual(node.decorator_list, [])
                    if node.name.startswith("__"):
                        self.assertIn(node.name, METHODS)

    def test_module_level(self):
        for path, tree in TREES.items():
            for node in tree.body:
                docstring = isinstance(node, ast.Expr) and isinstance(node.value, ast.Constant)
                plain = (ast.ImportFrom, ast.FunctionDef, ast.ClassDef, ast.Assign)
                self.assertTrue(docstring or isinstance(node, plain), (path, node.lineno))

    def test_imports_are_from_the_file_that_defines_the_name(self):
        for path, tree in TREES.items():
            for node in of_sort(tree, ast.ImportFrom):
                if node.module in LIBRARY:
                    self.assertTrue(all(name.name in LIBRARY[node.module] for name in node.names), path)
                    continue
                source = PACKAGE.parent / (node.module.replace(".", "/") + ".py")
                defined = [one.name for one in TREES[source].body if hasattr(one, "name")]
                for name in node.names:
                    self.assertIn(name.name, defined, path)
                    self.assertIsNone(name.asname)

    def test_no_two_files_import_from_each_other(self):
        sources = {
            path.stem: [node.module.split(".")[-1] for node in of_sort(tree, ast.ImportFrom)] for path,
            tree in TREES.items()
        }
        while sources:
            free = [name for name in sources if not [one for one in sources[name] if one in sources]]
            self.assertTrue(free, sources)
            for name in free:
                del sources[name]

    def test_no_name_has_two_meanings(self):
        for path, tree in TREES.items():
            imported = [name.name for node in of_sort(tree, ast.ImportFrom) for name in node.names]
            classes = [node.name for node in of_sort(tree, ast.ClassDef)]
            top = [node.name for node in tree.body if hasattr(node, "name")]
            self.assertEqual(len(set(imported + top)), len(imported + top), path)
            for function in of_sort(tree, ast.FunctionDef):
                for name in scope_names(function):
                    self.assertNotIn(name, imported + classes, (path, function.name))

    def test_all_that_is_imported_is_used(self):
        for path, tree in TREES.items():
            used = [node.id for node in of_sort(tree, ast.Name)]
            for node in of_sort(tree, ast.ImportFrom):
                for name in node.names:
                    self.assertIn(name.name, used, path)

    def test_no_name_of_a_builtin(self):
        for path, tree in TREES.items():
            for node in ast.walk(tree):
                # Functions, classes, captured names and parameters, then variables.
                names = [getattr(node, "name", None), getattr(node, "arg", None)]
                if isinstance(node, ast.Name) and is_bound(node):
                    names.append(node.id)
                for name in names:
                    self.assertFalse(name in vars(builtins), (path, name))

    def test_only_some_builtins_and_methods(self):
        own = [node.name for tree in TREES.values() for node in of_sort(tree, ast.FunctionDef)]
        for path, tree in TREES.items():
            for node in of_sort(tree, ast.Name):
                if node.id in vars(builtins):
                    self.assertIn(node.id, BUILTINS, (path, node.lineno))
            for node in of_sort(tree, ast.Call):
                if isinstance(node.func, ast.Attribute):
                    self.assertIn(node.func.attr, (*CALLED, *own), (path, node.lineno))

    def test_no_name_is_a_method_and_an_attribute(self):
        classes = [one for tree in TREES.values() for one in of_sort(tree, ast.ClassDef)]
        methods = [node.name for one in classes for node in of_sort(one, ast.FunctionDef)]
        for path, tree in TREES.items():
            for node in of_sort(tree, ast.Attribute):
                if is_bound(node):
                    self.assertNotIn(node.attr, methods, (path, node.lineno))

    def test_no_star_in_an_index(self):
        for path, tree in TREES.items():
            for node in of_sort(tree, ast.Subscript):
                self.assertEqual(of_sort(node.slice, ast.Starred), [], (path, node.lineno))

    def test_only_own_errors_are_caught(self):
        errors = [one.name for one in TREES[PACKAGE / "errors.py"].body if isinstance(one, ast.ClassDef)]
        for path, tree in TREES.items():
            for node in of_sort(tree, ast.ExceptHandler):
                for one in of_sort(node.type, ast.Name):
                    self.assertIn(one.id, errors, (path, node.lineno))

    def test_texts(self):
        for path, tree in TREES.items():
            for node in of_sort(tree, ast.Constant):
                if isinstance(node.value, str):
                    self.assertNotIn("%", node.value, (path, node.lineno))

    def test_the_interface_is_defined_where_it_is_listed(self):
        for module, names in INTERFACE.items():
            found = importlib.import_module(f"planfirst.{module}")
            for name, told in names.items():
                thing = getattr(found, name)
                self.assertEqual(thing.__module__, f"planfirst.{module}")
                if isinstance(told, str):
                    self.assertTrue(inspect.isfunction(thing))
                    self.assertEqual(str(inspect.signature(thing)), told)
                    continue
                self.assertTrue(inspect.isclass(thing))
                for method, parameters in told.items():
                    # What makes an object and each method are defined in the class itself.
                    self.assertIn(method or "__init__", vars(thing))
                    called = getattr(thing, method) if method else thing
                    if parameters is not None:
                        self.assertEqual(str(inspect.signature(called)), parameters)


if __name__ == "__main__":
    unittest.main()

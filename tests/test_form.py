"""The form of the package: what shared/LANGUAGE.md asks of its files and can be seen simply."""

import ast
import builtins
import importlib
import inspect
import pathlib
import unittest
import warnings

PACKAGE = pathlib.Path(__file__).resolve().parent.parent / "planfirst"
FILES = sorted(PACKAGE.rglob("*.py"))
TREES = {path: ast.parse(path.read_text(encoding="utf-8")) for path in FILES}

# Of the interface, what has landed: a module's functions with their parameters, None for a class without any.
INTERFACE = {
    "values": {"Unknown": None, "is_known": ["value"], "agrees": ["planned", "value"], "same": ["one", "other"]},
    "expressions": {"reckon": ["expression", "names"]},
}
BARRED = (ast.AsyncFunctionDef, ast.AsyncFor, ast.AsyncWith, ast.Await, ast.Div, ast.MatMult, ast.Import)
METHODS = ("__init__", "__eq__", "__repr__", "__str__", "__len__")


class Form(unittest.TestCase):
    def test_only_python_files(self):
        for path in PACKAGE.rglob("*"):
            if "__pycache__" not in path.parts and not path.is_dir():
                self.assertIn(path, FILES)
        self.assertIn(PACKAGE / "__init__.py", FILES)
        self.assertLessEqual(len(FILES), 100)

    def test_lines_and_signs(self):
        for path in FILES:
            text = path.read_text(encoding="utf-8")
            self.assertLessEqual(len(text.splitlines()), 399, path)
            for line in text.splitlines():
                self.assertLessEqual(len(line), 120, path)
                self.assertTrue(all(" " <= sign <= "~" for sign in line), (path, line))

    def test_no_warnings(self):
        for path in FILES:
            with warnings.catch_warnings():
                warnings.simplefilter("error")
                compile(path.read_text(encoding="utf-8"), str(path), "exec")

    def test_functions_are_short_and_plain(self):
        for path, tree in TREES.items():
            for node in ast.walk(tree):
                self.assertNotIsInstance(node, BARRED, (path, getattr(node, "lineno", 0)))
                if isinstance(node, ast.FunctionDef):
                    self.assertLessEqual(node.end_lineno - node.lineno + 1, 40, (path, node.name))
                    if node.name.startswith("__"):
                        self.assertIn(node.name, METHODS)

    def test_module_level(self):
        for path, tree in TREES.items():
            for node in tree.body:
                docstring = isinstance(node, ast.Expr) and isinstance(node.value, ast.Constant)
                plain = (ast.ImportFrom, ast.FunctionDef, ast.ClassDef, ast.Assign)
                self.assertTrue(docstring or isinstance(node, plain), (path, node.lineno))

    def test_imports_are_from_the_file_that_defines_the_name(self):
        for path, tree in TREES.items():
            for node in ast.walk(tree):
                if isinstance(node, ast.ImportFrom):
                    source = PACKAGE.parent / (node.module.replace(".", "/") + ".py")
                    defined = [one.name for one in TREES[source].body if hasattr(one, "name")]
                    for name in node.names:
                        self.assertIn(name.name, defined, path)
                        self.assertIsNone(name.asname)

    def test_no_name_of_a_builtin(self):
        for path, tree in TREES.items():
            for node in ast.walk(tree):
                # Functions, classes, captured names and parameters, then variables.
                names = [getattr(node, "name", None), getattr(node, "arg", None)]
                if isinstance(node, ast.Name) and isinstance(node.ctx, ast.Store):
                    names.append(node.id)
                for name in names:
                    self.assertFalse(name in vars(builtins), (path, name))

    def test_the_interface_is_defined_where_it_is_listed(self):
        for module, names in INTERFACE.items():
            found = importlib.import_module(f"planfirst.{module}")
            for name, parameters in names.items():
                thing = getattr(found, name)
                self.assertEqual(thing.__module__, f"planfirst.{module}")
                if parameters is None:
                    self.assertTrue(inspect.isclass(thing))
                else:
                    self.assertEqual(list(inspect.signature(thing).parameters), parameters)


if __name__ == "__main__":
    unittest.main()

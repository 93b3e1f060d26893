"""The form of the package: what stands where, under which names, and some rules of the language."""

import ast
import builtins
import importlib
import inspect
import pathlib
import unittest

import faultorder

FOLDER = pathlib.Path(faultorder.__file__).parent
# The modules in their order: each one imports only from those ahead of it.
MODULES = ["errors", "plants", "runs"]
FUNCTIONS = {"plants": {"is_name": ["value"]}, "runs": {"at": ["plant", "state"]}}
METHODS = {
    "plants": {"Plant": {"__init__": ["parts", "gates", "causes", "top"], "__eq__": ["other"]}},
    "runs": {"Run": {"__init__": ["plant"], "truths": [], "possible": [], "do": ["event"], "do_all": ["events"],
                     "copy": []}},
}
PROPERTIES = {"plants": {"Plant": ["parts", "gates", "causes", "top"]}, "runs": {"Run": ["plant", "state", "stopped"]}}
BUILTINS = ["len", "range", "enumerate", "zip", "min", "max", "sum", "abs", "sorted", "reversed", "int", "str", "bool",
            "list", "tuple", "dict", "set", "isinstance", "repr", "any", "all", "divmod", "ValueError", "super",
            "property"]


def module(name):
    return importlib.import_module("faultorder." + name)


def source(name):
    return (FOLDER / (name + ".py")).read_text(encoding="utf-8")


def nodes(name, *kinds):
    return [node for node in ast.walk(ast.parse(source(name))) if isinstance(node, kinds)]


class TestInterface(unittest.TestCase):
    def test_functions(self):
        for name, functions in FUNCTIONS.items():
            for function, arguments in functions.items():
                value = getattr(module(name), function)
                self.assertEqual(value.__module__, "faultorder." + name)
                self.assertEqual(list(inspect.signature(value).parameters), arguments)

    def test_methods_stand_in_the_class_itself(self):
        for name, classes in METHODS.items():
            for kind, methods in classes.items():
                value = getattr(module(name), kind)
                self.assertEqual(value.__module__, "faultorder." + name)
                for method, arguments in methods.items():
                    self.assertEqual(list(inspect.signature(vars(value)[method]).parameters), ["self"] + arguments)

    def test_properties_stand_in_the_class_itself(self):
        for name, classes in PROPERTIES.items():
            for kind, properties in classes.items():
                for told in properties:
                    self.assertIsInstance(vars(getattr(module(name), kind))[told], property)


class TestLanguage(unittest.TestCase):
    def test_the_folder(self):
        files = [path.name for path in FOLDER.iterdir() if path.name != "__pycache__"]
        self.assertEqual(sorted(files), sorted(["__init__.py"] + [name + ".py" for name in MODULES]))

    def test_sizes_and_characters(self):
        for name in MODULES + ["__init__"]:
            text = source(name)
            self.assertLess(len(text.splitlines()), 400, name)
            self.assertLessEqual(max(len(line) for line in text.splitlines()), 120, name)
            self.assertLessEqual({sign for sign in text}, {chr(code) for code in range(32, 127)} | {"\n"}, name)
            for node in nodes(name, ast.FunctionDef):
                self.assertLessEqual(node.end_lineno - node.lineno, 39, node.name)

    def test_imports(self):
        for index, name in enumerate(MODULES):
            self.assertEqual(nodes(name, ast.Import), [])
            for node in nodes(name, ast.ImportFrom):
                self.assertIn(node.module, ["faultorder." + other for other in MODULES[:index]])
                for alias in node.names:
                    self.assertEqual(getattr(module(name), alias.name).__module__, node.module)

    def test_builtins(self):
        for name in MODULES:
            for node in nodes(name, ast.Name):
                if hasattr(builtins, node.id):
                    self.assertIn(node.id, BUILTINS, name)

    def test_what_is_not_used(self):
        for name in MODULES:
            self.assertEqual(nodes(name, ast.Global, ast.Div, ast.AsyncFunctionDef, ast.AnnAssign, ast.Yield), [])
            for node in nodes(name, ast.Constant):
                self.assertNotIsInstance(node.value, (float, complex))
            for node in nodes(name, ast.FunctionDef):
                told = [decorator.id for decorator in node.decorator_list if isinstance(decorator, ast.Name)]
                self.assertEqual(len(told), len(node.decorator_list))
                self.assertLessEqual(set(told), {"property"})


if __name__ == "__main__":
    unittest.main()

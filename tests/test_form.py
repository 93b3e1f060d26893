"""The form of the package: what stands where, under which names, and some rules of the language."""

import ast
import builtins
import importlib
import inspect
import pathlib
import unittest

import faultorder

FOLDER = pathlib.Path(faultorder.__file__).parent
# The modules in their order: each one imports only from those ahead of it.
MODULES = ["errors", "plants", "runs", "states", "orders", "machines", "alike", "commuting", "distances", "chances",
           "watching", "explaining", "looking", "mending", "blind", "bench", "judge", "texts", "console"]
FUNCTIONS = {
    "plants": ["is_name(value)"],
    "runs": ["at(plant, state)"],
    "states": ["reached(plant, *, mends=True, most=2000)", "is_reached(plant, value, *, mends=True)"],
    "orders": ["orders(plant)", "least_orders(plant)", "stops(plant)", "steady(plant)", "is_steady(plant, value)"],
    "machines": ["machine_of(plant, *, most=2000)"],
    "alike": ["compare(one, other, *, most=20000)", "is_relation(one, other, value)",
              "are_different(one, other, value)"],
    "commuting": ["commuting(plant)", "apart(plant, p, q)"],
    "distances": ["distance(plant, state)", "harmful(plant, *, most=2000)", "saving(plant)"],
    "chances": ["chance(plant, odds, count)", "shares(plant, odds, count)", "mean(plant, odds)"],
    "watching": ["seen(plant, sensors, events)", "in_danger(plant, state, *, ahead=1)",
                 "foretold(plant, sensors, *, ahead=1)", "is_foretold(plant, sensors, value, *, ahead=1)",
                 "is_unwarned(plant, sensors, value, *, ahead=1)", "least_sensors(plant, names, *, ahead=1)"],
    "explaining": ["explained(plant, sensors, record)", "behind(plant, sensors, record)",
                   "suspects(plant, sensors, record)"],
    "looking": ["inspect(plant, states, names)", "is_inspection(plant, states, names, value)", "depth(value)"],
    "mending": ["kept(plant, crew, *, mendable=None)", "is_plan(plant, crew, mendable, value)",
                "is_attack(plant, crew, mendable, value)", "lasts(plant, crew, *, mendable=None)", "least_crew(plant)",
                "least_mendable(plant, crew)"],
    "blind": ["blind(plant, sensors, crew, *, mendable=None, most=2000)",
              "is_blind_plan(plant, sensors, crew, mendable, value)",
              "is_blind_attack(plant, sensors, crew, mendable, value)", "least_eyes(plant, names, crew, *, most=2000)"],
    "judge": ["first_wrong(plant, journal)"],
    "texts": ["format_plant(plant)", "parse_plant(text)"],
    "console": ["replies(plant, text)"],
}
METHODS = {
    "plants": {"Plant": ["__init__(self, parts, gates, causes, top)", "__eq__(self, other)"]},
    "runs": {"Run": ["__init__(self, plant)", "truths(self)", "possible(self)", "do(self, event)",
                     "do_all(self, events)", "copy(self)"]},
    "machines": {"Machine": ["__init__(self, parts, rows)", "__eq__(self, other)", "__len__(self)",
                             "play(self, events)", "smallest(self)"]},
    "bench": {"Bench": ["__init__(self, plant)", "do(self, operation)", "do_all(self, operations)", "undo(self)",
                        "redo(self)", "log(self)", "ask(self, crew)", "journal(self)", "copy(self)"]},
    "console": {"Console": ["__init__(self, plant)", "reply(self, line)"]},
}
PROPERTIES = {"plants": {"Plant": ["parts", "gates", "causes", "top"]},
              "runs": {"Run": ["plant", "state", "stopped"]},
              "machines": {"Machine": ["parts", "rows"]},
              "bench": {"Bench": ["plant", "state", "stopped"]}}
# What may be imported from the standard library.
LIBRARY = {"math": ["gcd", "lcm"]}
BUILTINS = ["len", "range", "enumerate", "zip", "min", "max", "sum", "abs", "sorted", "reversed", "int", "str", "bool",
            "list", "tuple", "dict", "set", "isinstance", "repr", "any", "all", "divmod", "ValueError", "super",
            "property"]


def module(name):
    return importlib.import_module("faultorder." + name)


def source(name):
    return (FOLDER / (name + ".py")).read_text(encoding="utf-8")


def defined(name):
    """The names that a file itself defines."""
    found = []
    for node in ast.parse(source(name)).body:
        if isinstance(node, (ast.FunctionDef, ast.ClassDef)):
            found.append(node.name)
        if isinstance(node, ast.Assign):
            found.extend([target.id for target in node.targets])
    return found


def nodes(name, *kinds):
    return [node for node in ast.walk(ast.parse(source(name))) if isinstance(node, kinds)]


def signature(value):
    return value.__name__ + str(inspect.signature(value))


class TestInterface(unittest.TestCase):
    def test_functions(self):
        for name, functions in FUNCTIONS.items():
            for told in functions:
                value = getattr(module(name), told.partition("(")[0])
                self.assertEqual(value.__module__, "faultorder." + name)
                self.assertEqual(signature(value), told)

    def test_methods_stand_in_the_class_itself(self):
        for name, classes in METHODS.items():
            for kind, methods in classes.items():
                value = getattr(module(name), kind)
                self.assertEqual(value.__module__, "faultorder." + name)
                for told in methods:
                    self.assertEqual(signature(vars(value)[told.partition("(")[0]]), told)

    def test_properties_stand_in_the_class_itself(self):
        for name, classes in PROPERTIES.items():
            for kind, properties in classes.items():
                for told in properties:
                    self.assertIsInstance(vars(getattr(module(name), kind))[told], property)


class TestLanguage(unittest.TestCase):
    def test_the_folder(self):
        files = [path.name for path in FOLDER.iterdir() if path.name != "__pycache__"]
        self.assertEqual(sorted(files), sorted(["__init__.py"] + [name + ".py" for name in MODULES]))

    def test_sizes_and_characters(self):
        for name in MODULES + ["__init__"]:
            text = source(name)
            self.assertLess(len(text.splitlines()), 400, name)
            self.assertLessEqual(max(len(line) for line in text.splitlines()), 120, name)
            self.assertLessEqual({sign for sign in text}, {chr(code) for code in range(32, 127)} | {"\n"}, name)
            for node in nodes(name, ast.FunctionDef):
                self.assertLessEqual(node.end_lineno - node.lineno, 39, node.name)

    def test_imports(self):
        for index, name in enumerate(MODULES):
            self.assertEqual(nodes(name, ast.Import), [])
            for node in nodes(name, ast.ImportFrom):
                for alias in node.names:
                    self.assertIsNone(alias.asname)
                    if node.module in LIBRARY:
                        self.assertIn(alias.name, LIBRARY[node.module])
                    else:
                        self.assertIn(node.module, ["faultorder." + other for other in MODULES[:index]])
                        self.assertIn(alias.name, defined(node.module.partition(".")[2]))

    def test_builtins(self):
        for name in MODULES:
            for node in nodes(name, ast.Name):
                if hasattr(builtins, node.id):
                    self.assertIn(node.id, BUILTINS, name)

    def test_inits_return_nothing(self):
        for name in MODULES:
            for node in nodes(name, ast.FunctionDef):
                if node.name == "__init__":
                    self.assertEqual([inner for inner in ast.walk(node) if isinstance(inner, ast.Return)], [])

    def test_what_stands_beside_is(self):
        for name in MODULES:
            for node in nodes(name, ast.Compare):
                for sign, right in zip(node.ops, node.comparators):
                    if isinstance(sign, (ast.Is, ast.IsNot)):
                        self.assertIsInstance(right, ast.Constant)

    def test_names_that_are_bound_twice(self):
        for name in MODULES:
            top = defined(name)
            self.assertEqual(len(top), len(set(top)))
            taken = [node.name for node in nodes(name, ast.ClassDef)]
            for node in nodes(name, ast.ImportFrom):
                taken.extend([alias.name for alias in node.names])
            for node in nodes(name, ast.arg):
                self.assertNotIn(node.arg, taken)
            for node in nodes(name, ast.Name):
                if isinstance(node.ctx, ast.Store):
                    self.assertNotIn(node.id, taken)

    def test_what_is_not_used(self):
        for name in MODULES:
            self.assertEqual(nodes(name, ast.Global, ast.Div, ast.AsyncFunctionDef, ast.AnnAssign, ast.Yield), [])
            for node in nodes(name, ast.Constant):
                self.assertNotIsInstance(node.value, (float, complex))
            for node in nodes(name, ast.FunctionDef):
                told = [decorator.id for decorator in node.decorator_list if isinstance(decorator, ast.Name)]
                self.assertEqual(len(told), len(node.decorator_list))
                self.assertLessEqual(set(told), {"property"})


if __name__ == "__main__":
    unittest.main()

"""The interface: names, arguments, and the files in which they are defined."""

import ast
import importlib
import inspect
import pathlib
import unittest

PACKAGE = pathlib.Path(__file__).resolve().parent.parent / "methodworlds"

FUNCTIONS = {
    "books": {"without": ["book", "methods"], "is_tails": ["book"]},
    "worlds": {"facts_world": ["facts", "deeds"], "world_of": ["book", "string"]},
    "doing": {
        "is_entry": ["book", "world", "value"],
        "ends": ["book", "world", "task", "state"],
        "courses": ["book", "world", "task", "state", "most"],
        "plan": ["book", "world", "task", "state", "wanted"],
    },
    "checking": {
        "way_holds": ["book", "world", "task", "state", "wanted", "proof"],
        "unrolled": ["book", "world", "proof"],
        "table_holds": ["book", "world", "task", "state", "wanted", "table"],
    },
    "sticking": {
        "stuck": ["book", "world", "task", "state"],
        "stuck_holds": ["book", "world", "task", "state", "value"],
    },
    "counting": {"ways": ["book", "world", "task", "state", "wanted", "deeds"]},
    "machines": {"accepts": ["book", "task", "string"], "normal": ["book", "task"]},
    "comparing": {name: ["first", "task", "second", "other"] for name in ("same", "apart", "within")},
    "reducing": {
        "needless": ["book", "task"],
        "fewest": ["book", "task"],
        "fewest_holds": ["book", "task", "kept", "proofs"],
    },
    "texts": {"printed": ["value"], "parse": ["text"]},
}

CLASSES = {
    "errors": {
        "MethodError": None,
        "BadValue": ["at"],
        "BadState": ["at"],
        "BadSyntax": ["at"],
        "BadMethod": ["task", "method"],
        "TooMany": ["word"],
    },
    "books": {"Book": ["facts", "deeds", "tasks"]},
    "worlds": {"World": ["facts", "states", "moves"]},
}

MEMBERS = {
    ("books", "Book"): ["facts", "deeds", "tasks"],
    ("worlds", "World"): ["facts", "states", "moves", "deeds"],
}


def defined(module, kind):
    """The names of the definitions of a kind that stand at the module level of a file."""
    tree = ast.parse((PACKAGE / f"{module}.py").read_text())
    return [node.name for node in tree.body if isinstance(node, kind)]


class TestInterface(unittest.TestCase):
    def test_functions(self):
        for module, functions in FUNCTIONS.items():
            loaded = importlib.import_module(f"methodworlds.{module}")
            for name, arguments in functions.items():
                with self.subTest(module=module, name=name):
                    self.assertIn(name, defined(module, ast.FunctionDef))
                    parameters = inspect.signature(getattr(loaded, name)).parameters.values()
                    self.assertEqual([each.name for each in parameters], arguments)
                    for each in parameters:
                        self.assertIs(each.kind, inspect.Parameter.POSITIONAL_OR_KEYWORD)
                        self.assertIs(each.default, inspect.Parameter.empty)

    def test_classes(self):
        for module, classes in CLASSES.items():
            loaded = importlib.import_module(f"methodworlds.{module}")
            for name, arguments in classes.items():
                with self.subTest(module=module, name=name):
                    self.assertIn(name, defined(module, ast.ClassDef))
                    if arguments is not None:
                        made = vars(getattr(loaded, name))["__init__"]
                        self.assertEqual(list(inspect.signature(made).parameters), ["self", *arguments])

    def test_properties_stand_in_their_class(self):
        for (module, name), members in MEMBERS.items():
            found = getattr(importlib.import_module(f"methodworlds.{module}"), name)
            for member in members:
                self.assertIsInstance(vars(found)[member], property, (name, member))
            self.assertIn("__eq__", vars(found))

    def test_len_stands_in_world(self):
        self.assertIn("__len__", vars(importlib.import_module("methodworlds.worlds").World))

    def test_console(self):
        self.assertIn("Console", defined("console", ast.ClassDef))
        members = vars(importlib.import_module("methodworlds.console").Console)
        for name, arguments in (("run", ["self", "command"]), ("log", ["self"])):
            self.assertTrue(inspect.isfunction(members[name]))
            self.assertEqual(list(inspect.signature(members[name]).parameters), arguments)
        self.assertIsInstance(members["replayed"], (staticmethod, classmethod))
        found = importlib.import_module("methodworlds.console").Console
        self.assertEqual(list(inspect.signature(found.replayed).parameters), ["log"])
        self.assertEqual(list(inspect.signature(found).parameters), [])

    def test_package_has_an_init_file(self):
        self.assertTrue((PACKAGE / "__init__.py").is_file())

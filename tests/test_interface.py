"""The interface: what each module defines itself, and the arguments of it."""

import ast
import importlib
import inspect
import pathlib
import unittest

PACKAGE = pathlib.Path(__file__).resolve().parent.parent / "lookdone"

# For each module its functions with their arguments.
FUNCTIONS = {
    "spans": {
        "clip": "(number)", "hull": "(one, other)", "plus": "(one, other)", "minus": "(one, other)",
        "times": "(one, other)", "less": "(one, other)", "same": "(one, other)",
    },
    "expressions": {
        "is_expression": "(thing)", "parts_of": "(expression)", "depth_of": "(expression)", "is_plain": "(expression)",
        "is_closed": "(expression)", "is_simple": "(expression)", "variables_of": "(expression)",
        "columns_of": "(expression)", "keyed": "(expression, other)",
    },
    "expressiontexts": {"show_expression": "(expression)", "read_expression": "(thing)"},
    "statements": {"is_transaction": "(thing)"},
    "statementtexts": {"show_transaction": "(transaction)", "read_transaction": "(thing)"},
    "logs": {
        "log_of": "(*transactions)", "is_log": "(thing)", "statement_at": "(log, position)",
        "let_of": "(log, position, variable)",
    },
    "slots": {
        "is_slot": "(log, thing)", "expression_of": "(log, slot)", "may_stand": "(log, expression, position)",
        "writers": "(log, table, column, position)",
    },
    "slotspans": {"span_of": "(log, expression, position)", "slot_span": "(log, slot)"},
    "evaluation": {
        "value_of": "(log, expression, position)", "needed": "(log, expression, position)",
        "evaluated": "(log, expression, position, *, entries=())",
    },
    "workers": {"worked": "(log, looks, turns, *, entries=())"},
    "compacting": {
        "is_hidden": "(log, position, other, *, entries=())", "live": "(log, moments, *, entries=())",
        "compact": "(log, moments, *, entries=())",
    },
    "leading": {
        "led": "(log, expression, position)", "led_back": "(log, expression, position, cut)",
        "steps_back": "(log, expression, position)", "cut_look": "(log, expression, position, cut)",
    },
    "traces": {"trace_of": "(log, expression, position)"},
    "tracechecks": {"trace_holds": "(log, expression, position, thing)"},
    "logtexts": {"show_log": "(log, kept)", "read_log": "(thing)"},
    "views": {"view": "(store, table, *columns, moment=None)"},
    "findings": {"finding_holds": "(thing)"},
}

# For each module its classes with the methods and properties that they define.
CLASSES = {
    "errors": {
        "StoreError": {}, "BadText": {}, "Refused": {}, "NotKept": {}, "NoSlot": {}, "TooLarge": {}, "Conflict": {},
        "Closed": {}, "BadRow": {}, "NoSession": {},
    },
    "plain": {
        "PlainStore": {
            "commit": "(self, transaction)", "run": "(self, *statements)", "moment": None,
            "value": "(self, expression, *, moment=None)",
        },
    },
    "stores": {
        "LazyStore": {
            "commit": "(self, transaction)", "run": "(self, *statements)",
            "look": "(self, expression, *, moment=None, cut=None)", "early": "(self, thing)", "keep": "(self)",
            "free": "(self, moment)", "session": "(self)", "work": "(self, *looks, turns=())", "saved": "(self)",
            "compacted": "(self)", "moment": None, "log": None, "journal": None, "kept": None,
        },
    },
    "sessions": {
        "Session": {
            "__init__": "(self, store)", "look": "(self, expression)", "do": "(self, transaction)", "close": "(self)",
            "events": None, "moment": None, "is_closed": None,
        },
    },
    "consoles": {"Console": {"__init__": "(self)", "say": "(self, thing)"}},
}


def defined_in(module):
    """The functions and classes that the file of the module defines, by their names."""
    tree = ast.parse((PACKAGE / f"{module}.py").read_text(encoding="ascii"))
    return {node.name: node for node in tree.body if isinstance(node, (ast.FunctionDef, ast.ClassDef))}


class InterfaceTest(unittest.TestCase):

    def test_functions(self):
        for module, functions in FUNCTIONS.items():
            there = importlib.import_module(f"lookdone.{module}")
            for name, arguments in functions.items():
                with self.subTest(module=module, name=name):
                    self.assertIsInstance(defined_in(module)[name], ast.FunctionDef)
                    self.assertEqual(str(inspect.signature(getattr(there, name))), arguments)

    def test_classes(self):
        for module, classes in CLASSES.items():
            there = importlib.import_module(f"lookdone.{module}")
            for name, methods in classes.items():
                self.assertIsInstance(defined_in(module)[name], ast.ClassDef)
                own = vars(getattr(there, name))
                for method, arguments in methods.items():
                    with self.subTest(module=module, name=name, method=method):
                        if arguments is None:
                            self.assertIsInstance(own[method], property)
                        else:
                            self.assertEqual(str(inspect.signature(own[method])), arguments)

    def test_what_is_no_method(self):
        restart = vars(importlib.import_module("lookdone.stores").LazyStore)["restart"]
        self.assertIsInstance(restart, classmethod)
        self.assertEqual(str(inspect.signature(restart.__func__)), "(cls, thing, journal=())")
        steps_back = importlib.import_module("lookdone.leading").steps_back
        self.assertIs(inspect.isgeneratorfunction(steps_back), True)
        words = vars(importlib.import_module("lookdone.consoles").Console)["WORDS"]
        self.assertIsInstance(words, tuple)

    def test_the_package_is_one_folder_of_python_files(self):
        names = [path.name for path in PACKAGE.iterdir() if path.name != "__pycache__"]
        self.assertIn("__init__.py", names)
        self.assertEqual([name for name in names if not name.endswith(".py")], [])


if __name__ == "__main__":
    unittest.main()

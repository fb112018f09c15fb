"""Where the classes of the interface are defined, and with which methods."""

import ast
import importlib
import inspect
import pathlib
import unittest

PACKAGE = pathlib.Path(__file__).resolve().parent.parent / "heirsback"

CLASSES = {
    "library": {
        "Library": [
            "read", "signs", "arity", "changed", "maker_of", "with_maker", "makers", "__contains__", "__len__", "__iter__",
            "__str__", "__eq__",
        ],
    },
    "world": {
        "World": [
            "read", "of", "lines", "names", "licences", "base", "belongs", "nearest", "parameters", "fields", "added", "rules",
            "hook_of", "__contains__", "__len__", "__str__", "__eq__",
        ],
    },
    "values": {
        "Value": ["__init__", "numbers", "missing", "stale", "state", "__contains__", "__bool__", "__eq__"],
    },
    "steps": {
        "Step": ["fates", "__contains__", "__bool__"],
    },
    "expressions": {
        "Expression": [
            "leaf", "asked", "read", "leaves", "signs", "__add__", "__sub__", "__mul__", "__floordiv__", "__and__", "__or__",
            "__xor__", "__lshift__", "__rshift__", "__neg__", "__pos__", "__invert__", "__abs__", "__rmul__", "__pow__", "__len__",
            "__str__", "__eq__",
        ],
    },
    "runs": {
        "Run": ["journal", "__len__", "end", "__bool__", "lacks", "result"],
    },
    "tables": {
        "Table": ["__init__", "prices", "expression_of", "__contains__", "__len__", "lacking"],
    },
    "brackets": {
        "Evenness": ["__bool__", "pair", "__len__"],
    },
    "families": {
        "Family": [
            "__init__", "of", "used_by", "__and__", "__or__", "__sub__", "is_within", "__contains__", "__iter__", "__len__",
            "__bool__", "__eq__", "__repr__",
        ],
    },
    "atlas": {
        "Entry": ["lines", "steps"],
        "Verdict": ["__bool__", "__len__"],
    },
    "choosing": {
        "Choice": [],
    },
    "parting": {
        "Parting": [],
    },
    "errors": {
        name: []
        for name in (
            "HeirsbackError", "BadLibrary", "BadWorld", "BadValue", "BadExpression", "BadFamily", "BadVirtue", "BadMaker",
            "NoClass", "NoSign", "TooMany", "Unlike", "Surplus", "Lacking", "Unknown", "Failed",
        )
    },
}
DECORATED = {
    ("library", "Library", "read"): "classmethod",
    ("library", "Library", "makers"): "staticmethod",
    ("world", "World", "read"): "classmethod",
    ("world", "World", "of"): "classmethod",
    ("world", "World", "lines"): "property",
    ("values", "Value", "missing"): "property",
    ("values", "Value", "stale"): "property",
    ("values", "Value", "state"): "property",
    ("atlas", "Entry", "lines"): "property",
    ("atlas", "Entry", "steps"): "property",
    ("runs", "Run", "end"): "property",
    ("brackets", "Evenness", "pair"): "property",
    ("families", "Family", "of"): "classmethod",
    ("families", "Family", "used_by"): "classmethod",
    ("expressions", "Expression", "leaf"): "staticmethod",
    ("expressions", "Expression", "asked"): "staticmethod",
    ("expressions", "Expression", "read"): "classmethod",
}
# The parameters of what is called, as the interface writes them.
CALLS = {
    ("library", "Library.read"): "(text)",
    ("library", "Library.makers"): "(arity, *, hook=True)",
    ("library", "Library.with_maker"): "(self, sign, maker)",
    ("world", "World.read"): "(library, text)",
    ("world", "World.of"): "(library, *lines)",
    ("world", "World.belongs"): "(self, one, other)",
    ("world", "World.nearest"): "(self, one, other)",
    ("values", "Value"): "(world, name, numbers)",
    ("values", "by_position"): "(world, name, *numbers)",
    ("values", "by_names"): "(world, name, **numbers)",
    ("virtues", "check_virtues"): "(words)",
    ("steps", "step"): "(world, sign, *operands, start=1000)",
    ("steps", "request"): "(world, word, name, *, start=1000)",
    ("atlas", "atlas"): "(library, sign, family)",
    ("atlas", "serves"): "(library, family, virtues)",
    ("greatest", "breakers"): "(library, virtues)",
    ("greatest", "greatest"): "(library, virtues)",
    ("choosing", "fitting"): "(library, sign, family, virtues)",
    ("choosing", "cheapest"): "(library, prices, family, virtues)",
    ("parting", "check_comparable"): "(one, other)",
    ("parting", "parted"): "(one, other, family)",
    ("runs", "run"): "(world, expression)",
    ("tables", "Table"): "(world, *names)",
    ("tables", "Table.expression_of"): "(self, state)",
    ("tables", "Table.lacking"): "(self, virtue)",
    ("tables", "is_right"): "(world, prices, *names)",
    ("brackets", "bracketings"): "(sign, *leaves)",
    ("brackets", "ends"): "(world, sign, *names, any_order=False)",
    ("brackets", "even"): "(world, sign, *names)",
    ("families", "Family"): "(words)",
    ("families", "Family.of"): "(*words)",
    ("families", "Family.used_by"): "(world)",
    ("families", "Family.is_within"): "(self, other)",
    ("expressions", "Expression.leaf"): "(label, name)",
    ("expressions", "Expression.asked"): "(name, word)",
    ("expressions", "Expression.read"): "(text)",
}


def tree_of(module):
    return ast.parse((PACKAGE / f"{module}.py").read_text())


class Definitions(unittest.TestCase):
    def test_classes_stand_in_their_files_with_their_methods(self):
        for module, classes in CLASSES.items():
            found = {node.name: node for node in tree_of(module).body if isinstance(node, ast.ClassDef)}
            for name, methods in classes.items():
                with self.subTest(module=module, name=name):
                    self.assertIn(name, found)
                    own = {node.name for node in found[name].body if isinstance(node, ast.FunctionDef)}
                    self.assertLessEqual(set(methods), own)

    def test_kinds_of_methods(self):
        for (module, name, method), kind in DECORATED.items():
            with self.subTest(module=module, name=name, method=method):
                found = [node for node in ast.walk(tree_of(module)) if isinstance(node, ast.FunctionDef) and node.name == method]
                self.assertEqual([[mark.id for mark in node.decorator_list] for node in found], [[kind]])

    def test_calls(self):
        for (module, path), parameters in CALLS.items():
            with self.subTest(module=module, path=path):
                name, _, method = path.partition(".")
                found = getattr(importlib.import_module(f"heirsback.{module}"), name)
                self.assertEqual(found.__module__, f"heirsback.{module}")
                if method:
                    found = getattr(found, method)
                self.assertEqual(str(inspect.signature(found)), parameters)

    def test_generators(self):
        for module, name in (("runs", "journal"), ("brackets", "bracketings")):
            found = [node for node in ast.walk(tree_of(module)) if isinstance(node, ast.FunctionDef) and node.name == name]
            self.assertEqual(len(found), 1)
            self.assertTrue([node for node in ast.walk(found[0]) if isinstance(node, (ast.Yield, ast.YieldFrom))])


if __name__ == "__main__":
    unittest.main()

"""Where the classes of the interface are defined, and with which methods."""

import ast
import pathlib
import unittest

PACKAGE = pathlib.Path(__file__).resolve().parent.parent / "heirsback"

CLASSES = {
    "library": {
        "Library": [
            "read", "signs", "arity", "changed", "maker_of", "with_maker", "makers", "__contains__", "__len__", "__iter__",
            "__str__", "__eq__",
        ],
    },
    "world": {
        "World": [
            "read", "of", "lines", "names", "licences", "base", "belongs", "nearest", "parameters", "fields", "added", "rules",
            "hook_of", "__contains__", "__len__", "__str__", "__eq__",
        ],
    },
    "errors": {
        name: []
        for name in (
            "HeirsbackError", "BadLibrary", "BadWorld", "BadValue", "BadExpression", "BadFamily", "BadVirtue", "BadMaker",
            "NoClass", "NoSign", "TooMany", "Unlike", "Surplus", "Lacking", "Unknown", "Failed",
        )
    },
}
DECORATED = {
    ("library", "Library", "read"): "classmethod",
    ("library", "Library", "makers"): "staticmethod",
    ("world", "World", "read"): "classmethod",
    ("world", "World", "of"): "classmethod",
    ("world", "World", "lines"): "property",
}


def tree_of(module):
    return ast.parse((PACKAGE / f"{module}.py").read_text())


class Definitions(unittest.TestCase):
    def test_classes_stand_in_their_files_with_their_methods(self):
        for module, classes in CLASSES.items():
            found = {node.name: node for node in tree_of(module).body if isinstance(node, ast.ClassDef)}
            for name, methods in classes.items():
                with self.subTest(module=module, name=name):
                    self.assertIn(name, found)
                    own = {node.name for node in found[name].body if isinstance(node, ast.FunctionDef)}
                    self.assertLessEqual(set(methods), own)

    def test_kinds_of_methods(self):
        for (module, name, method), kind in DECORATED.items():
            with self.subTest(module=module, name=name, method=method):
                found = [node for node in ast.walk(tree_of(module)) if isinstance(node, ast.FunctionDef) and node.name == method]
                self.assertEqual([[mark.id for mark in node.decorator_list] for node in found], [[kind]])


if __name__ == "__main__":
    unittest.main()

"""Some of the rules of the language that the package is written in, as far as they show in each file."""

import ast
import builtins
import pathlib
import unittest

PACKAGE = pathlib.Path(__file__).resolve().parent.parent / "heirsback"
FILES = sorted(PACKAGE.rglob("*.py"))

BUILTINS = set(
    "len range enumerate zip min max sum abs sorted reversed int str bool bytes list tuple dict set frozenset isinstance ord "
    "repr any all divmod pow getattr hasattr setattr iter next map super property staticmethod classmethod Exception ValueError "
    "TypeError KeyError IndexError LookupError ZeroDivisionError ArithmeticError OverflowError RuntimeError "
    "NotImplementedError StopIteration NotImplemented".split()
)
DUNDERS = set(
    "__init__ __eq__ __repr__ __str__ __len__ __enter__ __exit__ __call__ __iter__ __lt__ __le__ __gt__ __ge__ __ne__ __add__ "
    "__sub__ __mul__ __floordiv__ __mod__ __pow__ __and__ __or__ __xor__ __lshift__ __rshift__ __radd__ __rsub__ __rmul__ "
    "__neg__ __pos__ __invert__ __abs__ __bool__ __contains__ __getitem__ __setitem__".split()
)
BARRED = set("register mro elements open input law version_info with_traceback add_note".split())
NOT_USED = (
    ast.AsyncFunctionDef, ast.AsyncFor, ast.AsyncWith, ast.Await, ast.Global, ast.Import, ast.GeneratorExp, ast.Set, ast.Div,
    ast.MatMult,
)


def nodes(tree, kinds):
    return [node for node in ast.walk(tree) if isinstance(node, kinds)]


class EachFile(unittest.TestCase):
    def each(self, check):
        """Checks the text and the tree of each file."""
        self.assertTrue(FILES)
        for path in FILES:
            with self.subTest(path=path.name):
                text = path.read_text()
                check(text, ast.parse(text))

    def test_sizes_and_characters(self):
        def check(text, tree):
            self.assertLessEqual(len(text.split("\n")), 399)
            self.assertLessEqual(max(len(line) for line in text.split("\n")), 120)
            self.assertTrue(all(" " <= letter <= "~" or letter == "\n" for letter in text))
            for node in nodes(tree, ast.FunctionDef):
                self.assertLessEqual(node.end_lineno - node.lineno + 1, 40, node.name)

        self.each(check)

    def test_strings(self):
        def check(_, tree):
            for node in nodes(tree, ast.Constant):
                self.assertNotIsInstance(node.value, (float, complex))
                if isinstance(node.value, str):
                    self.assertNotIn("%", node.value)

        self.each(check)

    def test_imports_name_the_file_that_defines(self):
        def check(_, tree):
            for node in nodes(tree, ast.ImportFrom):
                self.assertEqual(node.level, 0)
                self.assertEqual(node.module.split(".")[0], "heirsback")
                source = ast.parse((PACKAGE.parent / (node.module.replace(".", "/") + ".py")).read_text())
                defined = [row.name for row in source.body if isinstance(row, (ast.FunctionDef, ast.ClassDef))]
                defined += [target.id for row in source.body if isinstance(row, ast.Assign) for target in row.targets]
                for alias in node.names:
                    self.assertIn(alias.name, defined)
                    self.assertIsNone(alias.asname)

        self.each(check)

    def test_what_is_not_used(self):
        def check(_, tree):
            for node in nodes(tree, NOT_USED):
                self.fail(f"line {node.lineno}: {node.__class__.__name__}")

        self.each(check)

    def test_decorators(self):
        def check(_, tree):
            for node in nodes(tree, (ast.FunctionDef, ast.ClassDef)):
                for mark in node.decorator_list:
                    self.assertIsInstance(node, ast.FunctionDef)
                    self.assertIn(ast.unparse(mark), ("property", "staticmethod", "classmethod"))

        self.each(check)

    def test_names(self):
        def check(_, tree):
            assigned = {node.id for node in nodes(tree, ast.Name) if not isinstance(node.ctx, ast.Load)}
            assigned |= {node.arg for node in nodes(tree, ast.arg)}
            assigned |= {node.name for node in tree.body if isinstance(node, (ast.FunctionDef, ast.ClassDef))}
            self.assertFalse(assigned & set(dir(builtins)))
            self.assertFalse(assigned & BARRED)
            read = {node.id for node in nodes(tree, ast.Name) if isinstance(node.ctx, ast.Load)}
            self.assertLessEqual(read & set(dir(builtins)), BUILTINS)
            attributes = {node.attr for node in nodes(tree, ast.Attribute)}
            self.assertFalse([name for name in attributes if name.startswith("__") and name != "__init__"])
            methods = {node.name for node in nodes(tree, ast.FunctionDef)}
            self.assertFalse([name for name in methods if name.startswith("__") and name not in DUNDERS])

        self.each(check)

    def test_lengths_are_plain(self):
        def check(_, tree):
            for node in nodes(tree, ast.FunctionDef):
                if node.name == "__len__":
                    for told in nodes(node, ast.Return):
                        if not isinstance(told.value, ast.Constant):
                            self.assertEqual(told.value.func.id, "len")
                            self.assertFalse(ast.unparse(told.value).startswith("len(range("))

        self.each(check)


class TheFolder(unittest.TestCase):
    def test_it_holds_python_files_only(self):
        for path in PACKAGE.rglob("*"):
            if "__pycache__" not in path.parts:
                self.assertTrue(path.is_dir() or path.suffix == ".py", path)

    def test_no_imports_in_a_circle(self):
        above = {}
        for path in FILES:
            found = nodes(ast.parse(path.read_text()), ast.ImportFrom)
            above[f"heirsback.{path.stem}"] = [node.module for node in found]
        while above:
            free = [name for name, needed in above.items() if not [module for module in needed if module in above]]
            self.assertTrue(free, f"circle within {sorted(above)}")
            above = {name: needed for name, needed in above.items() if name not in free}

    def test_no_name_is_a_method_and_an_attribute(self):
        # Narrower than the rule, which forbids it within one class only.
        methods, attributes = set(), set()
        for path in FILES:
            tree = ast.parse(path.read_text())
            for kind in nodes(tree, ast.ClassDef):
                methods |= {node.name for node in kind.body if isinstance(node, ast.FunctionDef)}
            attributes |= {node.attr for node in nodes(tree, ast.Attribute) if isinstance(node.ctx, ast.Store)}
        self.assertFalse(methods & attributes)


if __name__ == "__main__":
    unittest.main()

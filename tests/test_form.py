"""The rules of form that a short look at the package's files can tell."""

import ast
import builtins
import pathlib
import re
import unittest
import warnings

ROOT = pathlib.Path(__file__).resolve().parent.parent
PACKAGE = ROOT / "seatclocks"
FILES = sorted(PACKAGE.rglob("*.py"))

# The builtins and the methods of builtin values that the package uses, all of them allowed.
BUILTINS = [
    "ValueError", "abs", "all", "any", "bool", "divmod", "enumerate", "int", "isinstance", "len", "list", "max", "min",
    "range", "set", "sorted", "str", "tuple", "zip",
]
LIBRARY = ["itertools", "math"]
METHODS = [
    "append", "copy", "extend", "get", "index", "join", "partition", "pop", "removeprefix", "split", "values",
    "zfill",
]


def nodes(kind):
    """Each node of such a kind in the package, with its file."""
    return [(file.name, node) for file in FILES for node in ast.walk(ast.parse(file.read_text())) if isinstance(node, kind)]


class Form(unittest.TestCase):
    def test_the_folder_holds_plain_python_files_alone(self):
        self.assertIn(PACKAGE / "__init__.py", FILES)
        for path in PACKAGE.iterdir():
            if path.name != "__pycache__":
                self.assertRegex(path.name, r"^(__init__|[a-z][a-z0-9_]*)\.py$")

    def test_sizes_and_characters(self):
        for file in FILES:
            text = file.read_bytes().decode("ascii")
            self.assertIsNone(re.search(r"[^ -~\n]", text), file.name)
            self.assertLessEqual(len(text.splitlines()), 399, file.name)
            self.assertLessEqual(max(len(line) for line in text.splitlines()), 120, file.name)
        for name, node in nodes(ast.FunctionDef):
            self.assertLessEqual(node.end_lineno - node.lineno + 1, 40, (name, node.name))

    def test_python_warns_of_nothing(self):
        with warnings.catch_warnings():
            warnings.simplefilter("error")
            for file in FILES:
                compile(file.read_text(), file.name, "exec")

    def test_imports(self):
        self.assertEqual(nodes(ast.Import), [])
        for name, node in nodes(ast.ImportFrom):
            self.assertTrue(node.module in LIBRARY or node.module.startswith("seatclocks."), (name, node.module))
            self.assertEqual(node.level, 0)

    def test_module_level(self):
        for file in FILES:
            for row in ast.parse(file.read_text()).body:
                docstring = isinstance(row, ast.Expr) and isinstance(row.value, ast.Constant)
                plain = isinstance(row, (ast.Assign, ast.ClassDef, ast.FunctionDef, ast.ImportFrom))
                self.assertTrue(docstring or plain, (file.name, row.lineno))

    def test_builtins_and_methods(self):
        used = {node.id for name, node in nodes(ast.Name) if isinstance(node.ctx, ast.Load) and hasattr(builtins, node.id)}
        self.assertEqual(sorted(used - set(BUILTINS)), [])
        attributes = {node.attr for name, node in nodes(ast.Attribute)}
        own = {row.name for name, node in nodes(ast.ClassDef) for row in node.body if isinstance(row, ast.FunctionDef)}
        own |= {node.attr for name, node in nodes(ast.Attribute) if isinstance(node.ctx, ast.Store)}
        self.assertEqual(sorted(attributes - own - set(METHODS)), [])
        self.assertEqual(sorted(own & set(METHODS)), [])

    def test_no_name_has_another_meaning(self):
        for file in FILES:
            tree = ast.parse(file.read_text())
            imported = [other.name for node in ast.walk(tree) if isinstance(node, ast.ImportFrom) for other in node.names]
            made = [node.name for node in ast.walk(tree) if isinstance(node, (ast.FunctionDef, ast.ClassDef))]
            made = [name for name in made if name != "__init__"]
            made += [node.arg for node in ast.walk(tree) if isinstance(node, ast.arg)]
            made += [node.id for node in ast.walk(tree) if isinstance(node, ast.Name) and isinstance(node.ctx, ast.Store)]
            self.assertEqual([name for name in made if name in imported or hasattr(builtins, name)], [], file.name)

    def test_no_float_and_no_division_but_whole(self):
        self.assertEqual(nodes(ast.Div), [])
        self.assertEqual([node.value for name, node in nodes(ast.Constant) if isinstance(node.value, (float, complex))], [])


if __name__ == "__main__":
    unittest.main()

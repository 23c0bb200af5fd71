"""The rules of form that a short look at the package's files can tell."""

import ast
import pathlib
import re
import unittest
import warnings

ROOT = pathlib.Path(__file__).resolve().parent.parent
PACKAGE = ROOT / "seatclocks"
FILES = sorted(PACKAGE.rglob("*.py"))


def nodes(kind):
    """Each node of such a kind in the package, with its file."""
    return [(file.name, node) for file in FILES for node in ast.walk(ast.parse(file.read_text())) if isinstance(node, kind)]


class Form(unittest.TestCase):
    def test_the_folder_holds_plain_python_files_alone(self):
        self.assertIn(PACKAGE / "__init__.py", FILES)
        for path in PACKAGE.iterdir():
            if path.name != "__pycache__":
                self.assertRegex(path.name, r"^(__init__|[a-z][a-z0-9_]*)\.py$")

    def test_sizes_and_characters(self):
        for file in FILES:
            text = file.read_bytes().decode("ascii")
            self.assertIsNone(re.search(r"[^ -~\n]", text), file.name)
            self.assertLessEqual(len(text.splitlines()), 399, file.name)
            self.assertLessEqual(max(len(line) for line in text.splitlines()), 120, file.name)
        for name, node in nodes(ast.FunctionDef):
            self.assertLessEqual(node.end_lineno - node.lineno + 1, 40, (name, node.name))

    def test_python_warns_of_nothing(self):
        with warnings.catch_warnings():
            warnings.simplefilter("error")
            for file in FILES:
                compile(file.read_text(), file.name, "exec")

    def test_imports(self):
        self.assertEqual(nodes(ast.Import), [])
        for name, node in nodes(ast.ImportFrom):
            self.assertTrue(node.module == "math" or node.module.startswith("seatclocks."), (name, node.module))
            self.assertEqual(node.level, 0)

    def test_no_float_and_no_division_but_whole(self):
        self.assertEqual(nodes(ast.Div), [])
        self.assertEqual([node.value for name, node in nodes(ast.Constant) if isinstance(node.value, (float, complex))], [])


if __name__ == "__main__":
    unittest.main()

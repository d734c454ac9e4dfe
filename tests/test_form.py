"""The plain rules of form for the files of the package: sizes, characters and imports."""

import ast
import pathlib
import unittest

PACKAGE = pathlib.Path(__file__).resolve().parent.parent / "lastcopy"


class FormTest(unittest.TestCase):
    def setUp(self):
        self.texts = {path.name: path.read_text(encoding="utf-8")
                      for path in sorted(PACKAGE.glob("*.py"))}

    def test_only_files_of_python(self):
        names = [path.name for path in PACKAGE.iterdir() if path.name != "__pycache__"]
        self.assertEqual(sorted(names), sorted(self.texts))
        self.assertIn("__init__.py", names)

    def test_lines_and_characters(self):
        for name, text in self.texts.items():
            with self.subTest(name):
                self.assertLess(text.count("\n"), 400)
                self.assertLessEqual(max(len(line) for line in text.split("\n")), 120)
                self.assertTrue(all(sign == "\n" or " " <= sign <= "~" for sign in text))

    def test_functions_are_short(self):
        for name, text in self.texts.items():
            for node in ast.walk(ast.parse(text)):
                if isinstance(node, ast.FunctionDef):
                    with self.subTest(f"{name} {node.name}"):
                        self.assertLessEqual(node.end_lineno - node.lineno + 1, 40)

    def test_imports(self):
        library = ["__future__", "collections", "heapq", "itertools", "math"]
        for name, text in self.texts.items():
            for node in ast.walk(ast.parse(text)):
                self.assertNotIsInstance(node, ast.Import, name)
                if isinstance(node, ast.ImportFrom) and node.module not in library:
                    with self.subTest(name):
                        self.assertRegex(node.module, "^lastcopy[.][a-z_]+$")


if __name__ == "__main__":
    unittest.main()

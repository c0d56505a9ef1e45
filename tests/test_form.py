"""The form of the package's files, as far as it can be counted."""

import ast
import pathlib
import unittest

PACKAGE = pathlib.Path(__file__).resolve().parent.parent / "movedays"
METHODS = {"__init__", "__eq__", "__ne__"}
LIBRARY = {"heapq", "math", "itertools", "collections"}


def files():
    return sorted(path for path in PACKAGE.rglob("*") if "__pycache__" not in path.parts)


class Form(unittest.TestCase):
    def test_the_folder_holds_python_files_alone(self):
        self.assertIn(PACKAGE / "__init__.py", files())
        for path in files():
            self.assertEqual(path.suffix, ".py", path)

    def test_signs_and_sizes(self):
        for path in files():
            text = path.read_bytes().decode("ascii")
            self.assertTrue(all(sign == "\n" or " " <= sign <= "~" for sign in text), path)
            self.assertLessEqual(len(text.splitlines()), 399, path)
            for number, line in enumerate(text.splitlines(), 1):
                self.assertLessEqual(len(line), 120, (path, number))
                self.assertEqual(line, line.rstrip(), (path, number))

    def test_functions_are_short_and_without_decorators(self):
        for path in files():
            for node in ast.walk(ast.parse(path.read_text())):
                if isinstance(node, ast.FunctionDef):
                    self.assertLessEqual(node.end_lineno - node.lineno + 1, 40, (path, node.name))
                    self.assertEqual(node.decorator_list, [], (path, node.name))
                    if node.name.startswith("__"):
                        self.assertIn(node.name, METHODS, path)

    def test_imports_are_from_the_package(self):
        for path in files():
            for node in ast.walk(ast.parse(path.read_text())):
                self.assertNotIsInstance(node, ast.Import, path)
                if isinstance(node, ast.ImportFrom):
                    self.assertEqual(node.level, 0, path)
                    head, _, tail = node.module.partition(".")
                    self.assertTrue(head == "movedays" and tail or node.module in LIBRARY, (path, node.module))


if __name__ == "__main__":
    unittest.main()

"""What can be seen of the form of the package: files, sizes, characters, imports, names."""
import ast
import pathlib
import string
import unittest

PACKAGE = pathlib.Path(__file__).resolve().parent.parent / "needrows"
FILES = sorted(PACKAGE.rglob("*.py"))
SIGNS = set(string.printable) - set("\t\r\x0b\x0c")
NOT_USED = {
    "float", "filter", "frozenset", "globals", "locals", "vars", "eval", "exec", "print",
    "open", "input", "id", "hash", "register", "mro", "elements", "law", "type"}
LIBRARY = {"heapq", "math", "itertools", "collections", "__future__"}


def tree_of(path):
    return ast.parse(path.read_text(encoding="utf-8"))


class Form(unittest.TestCase):
    def test_files(self):
        self.assertTrue(FILES)
        for path in PACKAGE.rglob("*"):
            if "__pycache__" in path.parts:
                continue
            if path.is_dir():
                self.assertTrue((path / "__init__.py").is_file(), path)
            else:
                self.assertEqual(path.suffix, ".py", path)
            self.assertEqual(path.name, path.name.lower())

    def test_size_and_characters(self):
        for path in FILES:
            text = path.read_text(encoding="utf-8")
            self.assertLessEqual(set(text), SIGNS, path)
            self.assertLessEqual(len(text.splitlines()), 399, path)
            self.assertLessEqual(max(map(len, text.splitlines())), 120, path)
            for node in ast.walk(tree_of(path)):
                if isinstance(node, ast.FunctionDef):
                    self.assertLessEqual(node.end_lineno - node.lineno + 1, 40, (path, node.name))

    def test_imports(self):
        for path in FILES:
            for node in ast.walk(tree_of(path)):
                self.assertNotIsInstance(node, ast.Import, path)
                if isinstance(node, ast.ImportFrom):
                    self.assertEqual(node.level, 0, path)
                    self.assertIn(node.module.split(".")[0], LIBRARY | {"needrows"}, path)
                    self.assertFalse(any(one.asname or one.name == "*" for one in node.names), path)

    def test_names(self):
        for path in FILES:
            for node in ast.walk(tree_of(path)):
                if isinstance(node, ast.Name):
                    self.assertNotIn(node.id, NOT_USED, path)
                if isinstance(node, ast.Constant):
                    self.assertNotIsInstance(node.value, (float, complex), path)
                if isinstance(node, ast.ClassDef):
                    self.assertEqual(node.decorator_list, [], path)

    def test_any_and_all_take_lists(self):
        for path in FILES:
            for node in ast.walk(tree_of(path)):
                self.assertNotIsInstance(node, ast.GeneratorExp, path)


if __name__ == "__main__":
    unittest.main()

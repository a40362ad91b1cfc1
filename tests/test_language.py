import ast
import builtins
import pathlib
import unittest

PACKAGE = pathlib.Path(__file__).resolve().parent.parent / "reissue"
FILES = sorted(PACKAGE.rglob("*.py"))
LIBRARY = ["heapq", "math", "itertools", "collections", "__future__"]


def bound_names(tree):
    """Return the set of the names of the functions, classes, parameters and variables of a file."""
    names = set()
    for node in ast.walk(tree):
        if isinstance(node, (ast.FunctionDef, ast.ClassDef)):
            names.add(node.name)
        elif isinstance(node, ast.arg):
            names.add(node.arg)
        elif isinstance(node, ast.Name) and isinstance(node.ctx, ast.Store):
            names.add(node.id)
    return names


class Language(unittest.TestCase):
    """The rules of the language that can be counted: L1, L2, L10, L14, and of L15 and L16 the names."""

    def test_files(self):
        self.assertIn(PACKAGE / "__init__.py", FILES)
        for path in PACKAGE.rglob("*"):
            if "__pycache__" not in path.parts:
                self.assertTrue(path.is_dir() or path.suffix == ".py", path)

    def test_sizes_and_characters(self):
        for path in FILES:
            text = path.read_text(encoding="utf-8")
            lines = text.split("\n")
            self.assertLessEqual(len(lines), 399, path)
            for line in lines:
                self.assertLessEqual(len(line), 120, line)
            self.assertEqual([mark for mark in text if mark != "\n" and not " " <= mark <= "~"], [], path)

    def test_functions_are_short(self):
        for path in FILES:
            for node in ast.walk(ast.parse(path.read_text(encoding="utf-8"))):
                if isinstance(node, ast.FunctionDef):
                    self.assertLessEqual(node.end_lineno - node.lineno + 1, 40, f"{path}: {node.name}")

    def test_imports(self):
        for path in FILES:
            for node in ast.walk(ast.parse(path.read_text(encoding="utf-8"))):
                self.assertNotIsInstance(node, ast.Import, path)
                if isinstance(node, ast.ImportFrom):
                    self.assertEqual(node.level, 0, path)
                    self.assertTrue(node.module.startswith("reissue.") or node.module in LIBRARY, node.module)

    def test_names_are_not_those_of_imports_and_builtins(self):
        for path in FILES:
            tree = ast.parse(path.read_text(encoding="utf-8"))
            imported = {name.name for node in tree.body if isinstance(node, ast.ImportFrom) for name in node.names}
            self.assertEqual(imported & set(dir(builtins)), set(), path)
            self.assertEqual(bound_names(tree) & (imported | set(dir(builtins))), set(), path)

    def test_imports_name_the_file_that_defines_the_name(self):
        for path in FILES:
            for node in ast.walk(ast.parse(path.read_text(encoding="utf-8"))):
                if isinstance(node, ast.ImportFrom) and node.module.startswith("reissue."):
                    source = PACKAGE / (node.module.split(".")[1] + ".py")
                    names = bound_names(ast.parse(source.read_text(encoding="utf-8")))
                    self.assertEqual({name.name for name in node.names} - names, set(), path)


if __name__ == "__main__":
    unittest.main()

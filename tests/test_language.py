import ast
import builtins
import pathlib
import unittest

PACKAGE = pathlib.Path(__file__).resolve().parent.parent / "reissue"
FILES = sorted(PACKAGE.rglob("*.py"))
LIBRARY = ["heapq", "math", "itertools", "collections", "__future__"]
BUILTINS = """len range enumerate zip min max sum abs sorted reversed int str bool bytes list tuple dict set frozenset
    isinstance ord repr any all divmod pow Exception ValueError TypeError KeyError IndexError LookupError
    ZeroDivisionError ArithmeticError OverflowError RuntimeError NotImplementedError AttributeError StopIteration
    NotImplemented property""".split()
METHODS = """append clear copy count endswith extend find get index insert isalnum isalpha isdigit islower isspace
    isupper items join keys ljust lower lstrip partition pop remove replace reverse rfind rjust rpartition rsplit rstrip
    setdefault split splitlines startswith strip update upper values zfill bit_length""".split()
SPECIAL = """__init__ __eq__ __len__ __contains__ __lt__ __le__ __gt__ __ge__""".split()


def bound_names(tree):
    """Return the set of the names of the functions, classes, parameters and variables of a file."""
    names = set()
    for node in ast.walk(tree):
        if isinstance(node, (ast.FunctionDef, ast.ClassDef)):
            names.add(node.name)
        elif isinstance(node, ast.arg):
            names.add(node.arg)
        elif isinstance(node, ast.Name) and isinstance(node.ctx, ast.Store):
            names.add(node.id)
    return names


class Language(unittest.TestCase):
    """The rules of the language that can be counted, each in part: L1, L2, L4 to L8, L10, L14 to L17, L20, L25, L27."""

    def test_files(self):
        self.assertIn(PACKAGE / "__init__.py", FILES)
        for path in PACKAGE.rglob("*"):
            if "__pycache__" not in path.parts:
                self.assertTrue(path.is_dir() or path.suffix == ".py", path)

    def test_sizes_and_characters(self):
        for path in FILES:
            text = path.read_text(encoding="utf-8")
            lines = text.split("\n")
            self.assertLessEqual(len(lines), 399, path)
            for line in lines:
                self.assertLessEqual(len(line), 120, line)
            self.assertEqual([mark for mark in text if mark != "\n" and not " " <= mark <= "~"], [], path)

    def test_functions_are_short(self):
        for path in FILES:
            for node in ast.walk(ast.parse(path.read_text(encoding="utf-8"))):
                if isinstance(node, ast.FunctionDef):
                    self.assertLessEqual(node.end_lineno - node.lineno + 1, 40, f"{path}: {node.name}")

    def test_imports(self):
        for path in FILES:
            for node in ast.walk(ast.parse(path.read_text(encoding="utf-8"))):
                self.assertNotIsInstance(node, ast.Import, path)
                if isinstance(node, ast.ImportFrom):
                    self.assertEqual(node.level, 0, path)
                    self.assertTrue(node.module.startswith("reissue.") or node.module in LIBRARY, node.module)

    def test_names_are_not_those_of_imports_and_builtins(self):
        for path in FILES:
            tree = ast.parse(path.read_text(encoding="utf-8"))
            imported = {name.name for node in tree.body if isinstance(node, ast.ImportFrom) for name in node.names}
            self.assertEqual(imported & set(dir(builtins)), set(), path)
            self.assertEqual(bound_names(tree) & (imported | set(dir(builtins))), set(), path)

    def test_imports_name_the_file_that_defines_the_name(self):
        for path in FILES:
            for node in ast.walk(ast.parse(path.read_text(encoding="utf-8"))):
                if isinstance(node, ast.ImportFrom) and node.module.startswith("reissue."):
                    source = PACKAGE / (node.module.split(".")[1] + ".py")
                    names = bound_names(ast.parse(source.read_text(encoding="utf-8")))
                    self.assertEqual({name.name for name in node.names} - names, set(), path)

    def nodes(self, *kinds):
        for path in FILES:
            for node in ast.walk(ast.parse(path.read_text(encoding="utf-8"))):
                if isinstance(node, kinds):
                    yield path, node

    def test_builtins(self):
        for path, node in self.nodes(ast.Name):
            if node.id in dir(builtins):
                self.assertIn(node.id, BUILTINS, path)

    def test_methods_that_are_called(self):
        own = {node.name for _, node in self.nodes(ast.FunctionDef)}
        for path, node in self.nodes(ast.Call):
            if isinstance(node.func, ast.Attribute):
                self.assertIn(node.func.attr, {*METHODS, *own}, path)

    def test_methods_that_are_defined(self):
        for path, node in self.nodes(ast.FunctionDef):
            if node.name.startswith("__"):
                self.assertIn(node.name, SPECIAL, path)
            for mark in node.decorator_list:
                self.assertEqual(ast.unparse(mark), "property", path)
            self.assertNotIn(node.name, ["register", "mro", "elements", "open", "input", "law"])

    def test_is(self):
        for path, node in self.nodes(ast.Compare):
            for sign, right in zip(node.ops, node.comparators):
                if isinstance(sign, (ast.Is, ast.IsNot)):
                    self.assertIn(ast.unparse(right), ["None", "True", "False"], path)

    def test_values(self):
        for path, node in self.nodes(ast.Constant):
            self.assertNotIsInstance(node.value, (float, complex), path)
            if isinstance(node.value, str):
                self.assertNotIn("%", node.value, path)

    def test_statements(self):
        for path, node in self.nodes(ast.Global, ast.AsyncFunctionDef, ast.Await, ast.Div, ast.Import, ast.TryStar):
            self.fail(f"{path}: {node}")

    def test_sorted_and_greatest(self):
        # A class has an order, so these take what plainly consists of numbers or strings.
        plain = ["int(", "str(", "len(", "set(", "[int(", "0", "1"]
        for path, node in self.nodes(ast.Call):
            if ast.unparse(node.func) in ("sorted", "min", "max"):
                told = [ast.unparse(argument) for argument in node.args]
                self.assertTrue(any(one.startswith(tuple(plain)) for one in told), f"{path}: {told}")

    def test_module_level(self):
        for path in FILES:
            for node in ast.parse(path.read_text(encoding="utf-8")).body:
                self.assertIsInstance(node, (ast.Expr, ast.ImportFrom, ast.Assign, ast.FunctionDef, ast.ClassDef), path)
                if isinstance(node, (ast.Expr, ast.Assign)):
                    self.assertIsInstance(node.value, ast.Constant, path)


if __name__ == "__main__":
    unittest.main()

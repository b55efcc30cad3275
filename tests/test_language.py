"""The rules of the language that a look at the package's files shows."""
import ast
import builtins
import unittest
from pathlib import Path

PACKAGE = Path(__file__).resolve().parent.parent / "squarepapers"
LIBRARY = {"math": {"gcd", "lcm", "isqrt", "comb", "perm", "factorial"}, "itertools": {"product", "combinations"}}
BARRED_NODES = (
    ast.Global, ast.AsyncFunctionDef, ast.Await, ast.Div, ast.MatMult, ast.GeneratorExp, ast.Yield, ast.YieldFrom,
    ast.Import,
)
BUILTINS = {
    "len", "range", "enumerate", "zip", "min", "max", "sum", "abs", "sorted", "reversed", "int", "str", "bool", "list",
    "tuple", "dict", "set", "isinstance", "ord", "repr", "any", "all", "divmod", "map", "ValueError", "KeyError",
    "LookupError", "RuntimeError", "IndexError", "ZeroDivisionError",
}
BARRED_NAMES = {"register", "mro", "elements", "law", "gc", "os", "sys", "attrgetter", "methodcaller", "importlib"}


def sources():
    return [(path, path.read_text(encoding="utf-8")) for path in sorted(PACKAGE.rglob("*.py"))]


def bound_names(tree):
    """All names that a file binds, wherever."""
    names = set()
    for node in ast.walk(tree):
        if isinstance(node, (ast.FunctionDef, ast.ClassDef)):
            names.add(node.name)
        elif isinstance(node, ast.arg):
            names.add(node.arg)
        elif isinstance(node, ast.Name) and not isinstance(node.ctx, ast.Load):
            names.add(node.id)
        elif isinstance(node, ast.ImportFrom):
            names.update(alias.name for alias in node.names)
    return names


class Language(unittest.TestCase):
    def test_only_python_files(self):
        kept = [path for path in PACKAGE.rglob("*") if path.is_file() and "__pycache__" not in path.parts]
        self.assertTrue(all(path.suffix == ".py" for path in kept))
        self.assertTrue((PACKAGE / "__init__.py").is_file())

    def test_sizes_and_characters(self):
        for path, text in sources():
            with self.subTest(path.name):
                self.assertLessEqual(len(text.splitlines()), 399)
                self.assertLessEqual(max(map(len, text.splitlines())), 120)
                self.assertTrue(all(" " <= sign <= "~" or sign == "\n" for sign in text))

    def test_functions_have_at_most_40_lines(self):
        for path, text in sources():
            for node in ast.walk(ast.parse(text)):
                if isinstance(node, ast.FunctionDef):
                    self.assertLess(node.end_lineno - node.lineno, 40, (path.name, node.name))

    def test_imports(self):
        for path, text in sources():
            for node in ast.walk(ast.parse(text)):
                if isinstance(node, ast.ImportFrom):
                    with self.subTest(path.name, line=node.lineno):
                        self.assertEqual(node.level, 0)
                        self.assertTrue(all(alias.asname is None for alias in node.names))
                        if node.module in LIBRARY:
                            self.assertLessEqual({alias.name for alias in node.names}, LIBRARY[node.module])
                        else:
                            self.assertTrue((PACKAGE.parent / (node.module.replace(".", "/") + ".py")).is_file())

    def test_barred(self):
        for path, text in sources():
            for node in ast.walk(ast.parse(text)):
                with self.subTest(path.name, line=getattr(node, "lineno", 0)):
                    self.assertNotIsInstance(node, BARRED_NODES)
                    self.assertFalse(getattr(node, "decorator_list", []))
                    if isinstance(node, ast.Constant):
                        self.assertNotIsInstance(node.value, (float, complex))
                        self.assertFalse(isinstance(node.value, str) and "%" in node.value)

    def test_names(self):
        for path, text in sources():
            tree = ast.parse(text)
            bound = bound_names(tree)
            self.assertFalse(bound & (set(dir(builtins)) | BARRED_NAMES), path.name)
            for node in ast.walk(tree):
                if isinstance(node, ast.Name) and isinstance(node.ctx, ast.Load):
                    self.assertTrue(node.id in bound or node.id in BUILTINS, (path.name, node.id))

    def test_no_local_name_is_an_import_or_a_class(self):
        for path, text in sources():
            tree = ast.parse(text)
            taken = {alias.name for node in tree.body if isinstance(node, ast.ImportFrom) for alias in node.names}
            taken |= {node.name for node in tree.body if isinstance(node, ast.ClassDef)}
            for node in ast.walk(tree):
                if isinstance(node, ast.arg):
                    self.assertNotIn(node.arg, taken, path.name)
                if isinstance(node, ast.Name) and not isinstance(node.ctx, ast.Load):
                    self.assertNotIn(node.id, taken, path.name)


if __name__ == "__main__":
    unittest.main()

"""The rules of the language that can be seen from the files alone."""

import ast
import pathlib
import unittest
import warnings

PACKAGE = pathlib.Path(__file__).resolve().parent.parent / "galleymarks"
LIBRARY = {
    "heapq": {"heappush", "heappop", "heapify", "heapreplace", "heappushpop"},
    "math": {"gcd", "lcm", "isqrt", "comb", "perm", "factorial"},
    "itertools": {
        "product", "combinations", "permutations", "chain", "accumulate", "pairwise", "islice", "zip_longest",
    },
    "collections": {"defaultdict"},
    "__future__": {"annotations"},
}
BARRED = (ast.Global, ast.AsyncFunctionDef, ast.AsyncFor, ast.AsyncWith, ast.Await, ast.Div, ast.MatMult)


def files():
    return sorted(path for path in PACKAGE.iterdir() if path.name != "__pycache__")


def nodes():
    """Each node of each file's tree, with its tree and its file's name."""
    for path in files():
        tree = ast.parse(path.read_text(encoding="utf-8"))
        for node in ast.walk(tree):
            yield node, tree, path.name


class TestLanguage(unittest.TestCase):
    def test_the_folder_holds_only_files_of_the_program(self):
        self.assertIn("__init__.py", [path.name for path in files()])
        for path in files():
            self.assertTrue(path.is_file() and path.suffix == ".py", path.name)
            self.assertEqual(path.name, path.name.lower())

    def test_characters_and_sizes(self):
        for path in files():
            text = path.read_bytes().decode("ascii")
            self.assertTrue(all(sign == "\n" or " " <= sign <= "~" for sign in text), path.name)
            lines = text.splitlines()
            self.assertLess(len(lines), 400, path.name)
            self.assertLessEqual(max([len(line) for line in lines], default=0), 120, path.name)

    def test_functions_are_small(self):
        for node, _, name in nodes():
            if isinstance(node, ast.FunctionDef):
                self.assertLessEqual(node.end_lineno - node.lineno + 1, 40, (name, node.name))

    def test_imports(self):
        for node, tree, name in nodes():
            self.assertNotIsInstance(node, ast.Import, name)
            if not isinstance(node, ast.ImportFrom):
                continue
            self.assertIn(node, tree.body, name)
            self.assertEqual(node.level, 0, name)
            if node.module in LIBRARY:
                self.assertLessEqual({each.name for each in node.names}, LIBRARY[node.module], name)
            else:
                package, _, module = node.module.partition(".")
                self.assertEqual(package, "galleymarks", name)
                self.assertTrue((PACKAGE / f"{module}.py").is_file(), (name, node.module))

    def test_no_statement_or_sign_that_is_barred(self):
        for node, _, name in nodes():
            self.assertNotIsInstance(node, BARRED, name)
            if isinstance(node, ast.Constant):
                self.assertNotIsInstance(node.value, (float, complex), name)
                self.assertNotIn("%", node.value if isinstance(node.value, str) else "", name)

    def test_python_gives_no_warning(self):
        for path in files():
            with warnings.catch_warnings():
                warnings.simplefilter("error")
                compile(path.read_text(encoding="utf-8"), path.name, "exec")


if __name__ == "__main__":
    unittest.main()

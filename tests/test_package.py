"""The package as a whole: its folder, its imports, and those rules of the language that can be counted."""

import ast
import pathlib
import subprocess
import sys
import unittest

ROOT = pathlib.Path(__file__).resolve().parent.parent
PACKAGE = ROOT / "gradetalk"
FILES = sorted(PACKAGE.glob("*.py"))
LIBRARY = {
    "heapq": {"heappush", "heappop", "heapify", "heapreplace", "heappushpop"},
    "math": {"gcd", "lcm", "isqrt", "comb", "perm", "factorial"},
    "itertools": {
        "product", "combinations", "permutations", "chain", "accumulate", "pairwise", "islice", "zip_longest",
    },
    "collections": {"defaultdict", "deque"},
}


def tree(file):
    return ast.parse(file.read_text(encoding="ascii"))


class Folder(unittest.TestCase):
    def test_it_holds_python_files_only(self):
        for entry in PACKAGE.iterdir():
            if entry.name != "__pycache__":
                self.assertEqual(entry.suffix, ".py", entry)

    def test_the_package_imports_nothing(self):
        self.assertEqual([node for node in ast.walk(tree(PACKAGE / "__init__.py")) if not isinstance(node, (
            ast.Module, ast.Expr, ast.Constant))], [])
        code = "import sys, gradetalk; print([name for name in sys.modules if name.startswith('gradetalk.')])"
        told = subprocess.run([sys.executable, "-c", code], cwd=ROOT, capture_output=True, text=True, check=True)
        self.assertEqual(told.stdout, "[]\n")


class Language(unittest.TestCase):
    def test_the_characters(self):
        for file in FILES:
            for character in file.read_text(encoding="ascii"):
                self.assertTrue(character == "\n" or " " <= character <= "~", (file, character))

    def test_the_sizes(self):
        for file in FILES:
            lines = file.read_text(encoding="ascii").split("\n")
            self.assertLessEqual(len(lines), 400, file)
            self.assertLessEqual(max(len(line) for line in lines), 120, file)
            for node in ast.walk(tree(file)):
                if isinstance(node, ast.FunctionDef):
                    self.assertLessEqual(node.end_lineno - node.lineno + 1, 40, (file, node.name))

    def test_the_imports(self):
        for file in FILES:
            for node in ast.walk(tree(file)):
                self.assertNotIsInstance(node, ast.Import, file)
                if isinstance(node, ast.ImportFrom):
                    self.assertEqual(node.level, 0, file)
                    if node.module in LIBRARY:
                        self.assertLessEqual({alias.name for alias in node.names}, LIBRARY[node.module], file)
                    else:
                        self.assertEqual(node.module.split(".")[0], "gradetalk", file)

    def test_no_floats_and_no_true_division(self):
        for file in FILES:
            for node in ast.walk(tree(file)):
                self.assertNotIsInstance(node, ast.Div, file)
                if isinstance(node, ast.Constant):
                    self.assertNotIsInstance(node.value, (float, complex), file)


if __name__ == "__main__":
    unittest.main()

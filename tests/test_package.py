"""The package as a whole: its folder, its imports, and those rules of the language that can be counted."""

import ast
import inspect
import pathlib
import subprocess
import sys
import unittest

ROOT = pathlib.Path(__file__).resolve().parent.parent
PACKAGE = ROOT / "gradetalk"
FILES = sorted(PACKAGE.glob("*.py"))
LIBRARY = {
    "heapq": {"heappush", "heappop", "heapify", "heapreplace", "heappushpop"},
    "math": {"gcd", "lcm", "isqrt", "comb", "perm", "factorial"},
    "itertools": {
        "product", "combinations", "permutations", "chain", "accumulate", "pairwise", "islice", "zip_longest",
    },
    "collections": {"defaultdict", "deque"},
}
BUILTINS = set(
    """len range enumerate zip min max sum abs sorted reversed int str bool list tuple dict set isinstance ord repr any
    all divmod ValueError TypeError KeyError IndexError LookupError""".split()
)
METHODS = set(
    """append clear copy count endswith extend find get index insert items join keys partition pop remove replace
    reverse setdefault split startswith strip update values add discard bit_length""".split()
)
BARRED = set(
    """mro elements open input law register id type vars exec eval compile dir help exit quit globals locals
    next iter map filter print hash object format callable round slice""".split()
)
# What no attribute of the package is called: the methods of lists and dicts that change or read them.
BARRED_ATTRIBUTES = set(
    """items keys values pop update append clear extend insert remove reverse setdefault sort args encode decode hex
    fromhex format""".split()
)
# The functions and classes of the interface, with their arguments; those of sayings have tests of their own.
INTERFACE = {
    "degrees": {"is_degree": ["thing"], "degree": ["top", "bottom"], "at_most": ["x", "y"]},
    "sayings": {"named": ["name"], "never": [], "always": []},
    "texts": {"parsed": ["text"]},
    "joinings": {
        "Joining": ["pieces=()"],
        "Joining.both": ["self", "x", "y"],
        "Joining.then": ["self", "x", "y"],
        "Joining.worth": ["self", "saying", "degrees"],
        "Joining.is_break": ["self", "saying", "facts", "degrees"],
        "sums": ["count"],
    },
    "judging": {"is_paper": ["shape", "saying", "facts", "thing"]},
    "deciding": {
        "follows_in": ["shape", "saying", "facts=()"],
        "break_in": ["shape", "saying", "facts=()"],
        "follows": ["saying", "facts=()"],
        "break_of": ["saying", "facts=()"],
    },
    "papers": {"paper_in": ["shape", "saying", "facts=()"], "paper": ["saying", "facts=()"]},
    "grades": {
        "grade": ["saying", "facts=()"],
        "fewest": ["saying", "facts=()"],
        "uses": ["fact", "saying", "facts=()"],
        "least_facts": ["saying", "facts"],
    },
    "carrying": {"carried": ["joining", "degrees", "sayings"]},
    "books": {
        "Book": ["facts=()"],
        "Book.__len__": ["self"],
        "Book.holds": ["self", "saying"],
        "Book.agrees": ["self", "second"],
        "Book.tell": ["self", "saying"],
        "Book.untell": ["self", "number"],
        "Book.back": ["self"],
    },
}


def tree(file):
    return ast.parse(file.read_text(encoding="ascii"))


class Folder(unittest.TestCase):
    def test_it_holds_python_files_only(self):
        for entry in PACKAGE.iterdir():
            if entry.name != "__pycache__":
                self.assertEqual(entry.suffix, ".py", entry)

    def test_the_package_imports_nothing(self):
        self.assertEqual([node for node in ast.walk(tree(PACKAGE / "__init__.py")) if not isinstance(node, (
            ast.Module, ast.Expr, ast.Constant))], [])
        code = "import sys, gradetalk; print([name for name in sys.modules if name.startswith('gradetalk.')])"
        told = subprocess.run([sys.executable, "-c", code], cwd=ROOT, capture_output=True, text=True, check=True)
        self.assertEqual(told.stdout, "[]\n")


class Language(unittest.TestCase):
    def test_the_characters(self):
        for file in FILES:
            for character in file.read_text(encoding="ascii"):
                self.assertTrue(character == "\n" or " " <= character <= "~", (file, character))

    def test_the_sizes(self):
        for file in FILES:
            lines = file.read_text(encoding="ascii").split("\n")
            self.assertLessEqual(len(lines), 400, file)
            self.assertLessEqual(max(len(line) for line in lines), 120, file)
            for node in ast.walk(tree(file)):
                if isinstance(node, ast.FunctionDef):
                    self.assertLessEqual(node.end_lineno - node.lineno + 1, 40, (file, node.name))

    def test_the_imports(self):
        for file in FILES:
            for node in ast.walk(tree(file)):
                self.assertNotIsInstance(node, ast.Import, file)
                if isinstance(node, ast.ImportFrom):
                    self.assertEqual(node.level, 0, file)
                    if node.module in LIBRARY:
                        self.assertLessEqual({alias.name for alias in node.names}, LIBRARY[node.module], file)
                    else:
                        self.assertEqual(node.module.split(".")[0], "gradetalk", file)

    def test_no_floats_and_no_true_division(self):
        for file in FILES:
            for node in ast.walk(tree(file)):
                self.assertNotIsInstance(node, ast.Div, file)
                if isinstance(node, ast.Constant):
                    self.assertNotIsInstance(node.value, (float, complex), file)

    def test_no_two_files_import_from_each_other(self):
        told = {}
        for file in FILES:
            froms = [node.module for node in ast.walk(tree(file)) if isinstance(node, ast.ImportFrom)]
            told[f"gradetalk.{file.stem}"] = [name for name in froms if name.startswith("gradetalk.")]
        done = []
        while len(done) < len(told):
            ready = [name for name in told if name not in done and all(other in done for other in told[name])]
            self.assertTrue(ready, "files that import from each other")
            done += ready

    def test_imported_names_are_defined_in_the_file_they_come_from(self):
        for file in FILES:
            for node in ast.walk(tree(file)):
                if isinstance(node, ast.ImportFrom) and node.module.startswith("gradetalk."):
                    body = tree(PACKAGE / (node.module.split(".")[1] + ".py")).body
                    names = [part.name for part in body if isinstance(part, (ast.FunctionDef, ast.ClassDef))]
                    names += [target.id for part in body if isinstance(part, ast.Assign) for target in part.targets]
                    for alias in node.names:
                        self.assertIsNone(alias.asname)
                        self.assertIn(alias.name, names)

    def test_what_is_not_used(self):
        absent = (
            ast.GeneratorExp, ast.Yield, ast.YieldFrom, ast.Global, ast.Nonlocal, ast.AsyncFunctionDef, ast.Try, ast.With,
            ast.Match, ast.Lambda, ast.NamedExpr, ast.Set, ast.SetComp, ast.JoinedStr,
        )
        for file in FILES:
            for node in ast.walk(tree(file)):
                if isinstance(node, ast.JoinedStr) and file.stem == "sayings":
                    continue
                self.assertNotIsInstance(node, absent, file)
                if isinstance(node, ast.FunctionDef):
                    self.assertEqual(node.decorator_list, [])
                    self.assertFalse([part for part in ast.walk(node) if isinstance(part, ast.FunctionDef)][1:])

    def test_the_names(self):
        own = set()
        for file in FILES:
            own |= {node.name for node in ast.walk(tree(file)) if isinstance(node, (ast.FunctionDef, ast.ClassDef))}
        for file in FILES:
            bound = set(own)
            for node in ast.walk(tree(file)):
                if isinstance(node, ast.ImportFrom):
                    bound |= {alias.name for alias in node.names}
                if isinstance(node, ast.arg):
                    bound.add(node.arg)
                if isinstance(node, ast.Name) and isinstance(node.ctx, ast.Store):
                    bound.add(node.id)
            self.assertFalse((bound - own) & (BUILTINS | BARRED), file)
            self.assertFalse(own & (BUILTINS | BARRED), file)
            for node in ast.walk(tree(file)):
                if isinstance(node, ast.Name) and node.id not in bound:
                    self.assertIn(node.id, BUILTINS, file)
                if isinstance(node, ast.Call) and isinstance(node.func, ast.Attribute):
                    self.assertIn(node.func.attr, METHODS | own, file)

    def test_the_attributes(self):
        assigned, methods = set(), set()
        for file in FILES:
            for node in ast.walk(tree(file)):
                if isinstance(node, ast.Attribute) and isinstance(node.ctx, ast.Store):
                    assigned.add(node.attr)
                if isinstance(node, ast.ClassDef):
                    methods |= {part.name for part in node.body if isinstance(part, ast.FunctionDef)}
        self.assertFalse(assigned & (BARRED_ATTRIBUTES | BARRED | methods))
        for file in FILES:
            module = tree(file)
            called = {id(node.func) for node in ast.walk(module) if isinstance(node, ast.Call)}
            for node in ast.walk(module):
                if isinstance(node, ast.Attribute) and isinstance(node.ctx, ast.Load) and id(node) not in called:
                    self.assertIn(node.attr, assigned, file)

    def test_no_local_name_is_an_import_or_a_class_of_the_file(self):
        for file in FILES:
            module = tree(file)
            top = {alias.name for node in module.body if isinstance(node, ast.ImportFrom) for alias in node.names}
            top |= {node.name for node in module.body if isinstance(node, ast.ClassDef)}
            local = {node.arg for node in ast.walk(module) if isinstance(node, ast.arg)}
            local |= {node.id for node in ast.walk(module) if isinstance(node, ast.Name) and isinstance(node.ctx, ast.Store)}
            self.assertFalse(top & local, file)


class Interface(unittest.TestCase):
    def test_names_and_arguments(self):
        for module, things in INTERFACE.items():
            loaded = __import__(f"gradetalk.{module}", fromlist=["gradetalk"])
            for name, wanted in things.items():
                owner, _, method = name.partition(".")
                thing = getattr(loaded, owner)
                self.assertEqual(thing.__module__, f"gradetalk.{module}")
                if method:
                    self.assertIn(method, vars(thing))
                    thing = vars(thing)[method]
                told = [str(parameter) for parameter in inspect.signature(thing).parameters.values()]
                self.assertEqual(told, wanted, name)

    def test_the_attributes_of_a_joining(self):
        joining = __import__("gradetalk.joinings", fromlist=["gradetalk"]).Joining()
        self.assertEqual((joining.pieces, joining.shape), ((), ("minimum",)))

    def test_the_attributes_of_a_book(self):
        book = __import__("gradetalk.books", fromlist=["gradetalk"]).Book()
        self.assertEqual(book.facts, ())


if __name__ == "__main__":
    unittest.main()

"""What of ../shared/LANGUAGE.md can be told by looking at the package's files."""

import ast
import builtins
import pathlib
import unittest

PACKAGE = pathlib.Path(__file__).resolve().parent.parent / "planwright"
FILES = sorted(PACKAGE.glob("*.py"))
LIBRARY = {
    "heapq": {"heappush", "heappop", "heapify", "heapreplace", "heappushpop"},
    "math": {"gcd", "lcm", "isqrt", "comb", "perm", "factorial"},
    "itertools": {
        "product", "combinations", "permutations", "chain", "accumulate", "pairwise", "islice", "zip_longest",
    },
    "collections": {"defaultdict", "deque"},
}
BUILTINS = set(
    "len range enumerate zip min max sum abs sorted reversed int str bool bytes list tuple dict set frozenset isinstance"
    " ord repr any all divmod pow iter next map object float Exception ValueError TypeError KeyError IndexError"
    " LookupError ZeroDivisionError ArithmeticError OverflowError RuntimeError NotImplementedError AttributeError"
    " StopIteration NotImplemented property staticmethod classmethod super getattr hasattr setattr type".split()
)
BARRED = (
    ast.AsyncFunctionDef, ast.AsyncFor, ast.AsyncWith, ast.Await, ast.Div, ast.MatMult, ast.TryStar, ast.Import,
)


def trees():
    """Return (file's name, its tree) of all files."""
    return [(file.name, ast.parse(file.read_text("ascii"))) for file in FILES]


def words_of(tree):
    """Return the strings of a tree that are no docstrings."""
    docs = set()
    for node in ast.walk(tree):
        if isinstance(node, (ast.Module, ast.ClassDef, ast.FunctionDef)) and ast.get_docstring(node) is not None:
            docs.add(node.body[0].value)
    return [
        node.value for node in ast.walk(tree)
        if isinstance(node, ast.Constant) and isinstance(node.value, str) and node not in docs
    ]


class LanguageTest(unittest.TestCase):
    def test_the_folder_holds_files_of_the_package_alone(self):
        names = sorted(path.name for path in PACKAGE.iterdir() if path.name != "__pycache__")
        self.assertEqual(names, [file.name for file in FILES])
        self.assertIn("__init__.py", names)

    def test_signs_and_sizes(self):
        for file in FILES:
            text = file.read_bytes().decode("ascii")
            self.assertTrue(all(sign == "\n" or " " <= sign <= "~" for sign in text), file.name)
            lines = text.split("\n")
            self.assertLessEqual(len(lines), 399, file.name)
            self.assertLessEqual(max(len(line) for line in lines), 120, file.name)

    def test_functions_have_forty_lines_at_most(self):
        for name, tree in trees():
            for node in ast.walk(tree):
                if isinstance(node, ast.FunctionDef):
                    self.assertLessEqual(node.end_lineno - node.lineno + 1, 40, (name, node.name))

    def test_imports(self):
        for name, tree in trees():
            for node in ast.walk(tree):
                if isinstance(node, ast.ImportFrom):
                    self.assertEqual(node.level, 0, name)
                    self.assertTrue(all(word.asname is None for word in node.names), name)
                    words = {word.name for word in node.names}
                    if node.module in LIBRARY:
                        self.assertLessEqual(words, LIBRARY[node.module], name)
                    else:
                        self.assertTrue(node.module.startswith("planwright."), (name, node.module))

    def test_no_statement_or_sign_that_is_barred(self):
        for name, tree in trees():
            for node in ast.walk(tree):
                self.assertNotIsInstance(node, BARRED, name)
                if isinstance(node, ast.Constant):
                    self.assertNotIsInstance(node.value, (float, complex), name)

    def test_no_builtin_that_is_not_listed(self):
        for name, tree in trees():
            for node in ast.walk(tree):
                if isinstance(node, ast.Name) and hasattr(builtins, node.id):
                    self.assertIn(node.id, BUILTINS, name)

    def test_no_name_of_a_builtin_is_given_another_meaning(self):
        for name, tree in trees():
            for node in ast.walk(tree):
                given = None
                if isinstance(node, ast.Name) and isinstance(node.ctx, ast.Store):
                    given = node.id
                elif isinstance(node, ast.arg):
                    given = node.arg
                elif isinstance(node, ast.ClassDef):
                    given = node.name
                self.assertFalse(given is not None and hasattr(builtins, given), (name, given))

    def test_no_import_or_class_is_given_another_meaning(self):
        for name, tree in trees():
            fixed = {word.name for node in ast.walk(tree) if isinstance(node, ast.ImportFrom) for word in node.names}
            fixed |= {node.name for node in tree.body if isinstance(node, ast.ClassDef)}
            for node in ast.walk(tree):
                if isinstance(node, ast.Name) and isinstance(node.ctx, ast.Store):
                    self.assertNotIn(node.id, fixed, name)
                elif isinstance(node, ast.arg):
                    self.assertNotIn(node.arg, fixed, name)

    def test_no_two_files_import_from_each_other(self):
        ahead = {}
        for name, tree in trees():
            files = [node.module for node in ast.walk(tree) if isinstance(node, ast.ImportFrom)]
            ahead["planwright." + name[:-3]] = {file for file in files if file.startswith("planwright.")}
        while ahead:
            free = [file for file, files in ahead.items() if not files & set(ahead)]
            self.assertNotEqual(free, [], sorted(ahead))
            ahead = {file: files for file, files in ahead.items() if file not in free}

    def test_sets_are_not_kept(self):
        for name, tree in trees():
            kept = [node for node in ast.walk(tree) if isinstance(node, (ast.Set, ast.SetComp))]
            used = [node.args[0] for node in ast.walk(tree) if isinstance(node, ast.Call) and node.args
                    and isinstance(node.func, ast.Name) and node.func.id in ("sorted", "len")]
            self.assertTrue(all(node in used for node in kept), name)

    def test_strings(self):
        for name, tree in trees():
            for text in words_of(tree):
                self.assertNotIn("%", text, name)
                self.assertFalse(text.startswith("__"), (name, text))


if __name__ == "__main__":
    unittest.main()

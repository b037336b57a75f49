"""Those rules of the language that a look at each file of the package can check."""

import ast
import builtins
import os
import re
import unittest

ROOT = os.path.join(os.path.dirname(os.path.abspath(__file__)), "..", "tickrings")
LIBRARY = {
    "heapq": {"heappush", "heappop", "heapify", "heapreplace", "heappushpop"},
    "math": {"gcd", "lcm", "isqrt", "comb", "perm", "factorial"},
    "itertools": {"product", "combinations", "permutations", "chain", "accumulate", "pairwise",
                  "islice", "zip_longest"},
    "collections": {"defaultdict"},
    "__future__": {"annotations"},
}
BUILTINS = """
    len range enumerate zip min max sum abs sorted reversed int str bool bytes list tuple dict set frozenset
    isinstance ord repr any all divmod pow getattr hasattr setattr iter next map super property staticmethod
    classmethod Exception ValueError TypeError KeyError IndexError LookupError ZeroDivisionError ArithmeticError
    OverflowError RuntimeError NotImplementedError AttributeError StopIteration NotImplemented
""".split()


def package_files():
    found = []
    for folder, folders, names in os.walk(ROOT):
        if "__pycache__" in folders:
            folders.remove("__pycache__")
        found += [os.path.join(folder, name) for name in names]
    return sorted(found)


def text_of(path):
    with open(path, "rb") as file:
        return file.read().decode("utf-8")


class LanguageTest(unittest.TestCase):
    def trees(self):
        for path in package_files():
            yield path, ast.parse(text_of(path))

    def test_the_folder_holds_files_with_plain_names_only(self):
        names = [os.path.basename(path) for path in package_files()]
        self.assertIn("__init__.py", names)
        for name in names:
            self.assertTrue(re.fullmatch(r"[a-z_][a-z0-9_]*\.py", name), name)

    def test_characters_and_sizes(self):
        for path in package_files():
            text = text_of(path)
            self.assertTrue(re.fullmatch(r"[ -~\n]*", text), path)
            lines = text.split("\n")
            self.assertLessEqual(len(lines), 399, path)
            self.assertLessEqual(max(len(line) for line in lines), 120, path)

    def test_functions_are_small(self):
        for path, tree in self.trees():
            for node in ast.walk(tree):
                if isinstance(node, ast.FunctionDef):
                    self.assertLessEqual(node.end_lineno - node.lineno + 1, 40, (path, node.name))

    def test_imports_are_of_the_package_by_full_names(self):
        for path, tree in self.trees():
            for node in ast.walk(tree):
                self.assertNotIsInstance(node, ast.Import, path)
                if isinstance(node, ast.ImportFrom) and not node.module.startswith("tickrings."):
                    self.assertLessEqual({each.name for each in node.names}, LIBRARY[node.module], path)

    def test_only_the_builtins_of_the_language_are_used(self):
        for path, tree in self.trees():
            for node in ast.walk(tree):
                if isinstance(node, ast.Name) and hasattr(builtins, node.id):
                    self.assertIn(node.id, BUILTINS, path)

    def test_no_per_cent_sign_in_a_string_and_no_float(self):
        for path, tree in self.trees():
            for node in ast.walk(tree):
                if isinstance(node, ast.Constant):
                    self.assertNotIsInstance(node.value, float, path)
                    self.assertNotIn("%", str(node.value), path)


if __name__ == "__main__":
    unittest.main()

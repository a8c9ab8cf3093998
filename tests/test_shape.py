"""How the package's files look, what they define, and what README.md shows."""

import ast
import doctest
import pathlib
import unittest

ROOT = pathlib.Path(__file__).resolve().parent.parent
PACKAGE = ROOT / "lockturns"

INTERFACE = {
    "errors.py": ("LockError", "BadLock", "BadRow", "BadSign", "BadLine", "TooMany", "BadTurn",
                  "BadTask", "BadNumber", "NoWay", "NotPrime", "BadString"),
    "locks.py": ("all_turns", "is_made", "join", "undo", "rounds", "swapped", "word_for"),
    "series.py": ("lower", "derived", "center", "is_dying", "is_solved", "prime", "ring",
                  "shows_ring"),
    "tasks.py": ("table_of", "all_of", "polynomial", "degree"),
    "rows.py": ("worths", "written", "writes", "degrees"),
    "weights.py": ("weighed", "told_number", "chains"),
    "alls.py": ("most_all", "all_row"),
    "fulls.py": ("can_all", "row_for"),
    "formulas.py": ("formula_row",),
    "tidy.py": ("tidied", "fewest"),
    "locktexts.py": ("write_lock", "read_lock", "write_row", "read_row"),
    "benches.py": ("Dial",),
    "desks.py": ("Desk",),
    "sessions.py": ("Session", "read_session", "first_unlike"),
}

# What the interface lists for each class, in the order in which it does.
METHODS = {
    "benches.py": ("turn", "step", "undo", "home", "stands", "done"),
    "desks.py": ("take_lock", "say"),
    "sessions.py": ("say", "text", "log"),
}


def package_files():
    return sorted(path for path in PACKAGE.iterdir() if path.name != "__pycache__")


class ShapeTest(unittest.TestCase):
    def test_the_folder_holds_python_files_alone(self):
        self.assertTrue((PACKAGE / "__init__.py").is_file())
        for path in package_files():
            self.assertTrue(path.is_file() and path.suffix == ".py", path.name)

    def test_sizes_and_signs(self):
        for path in package_files():
            text = path.read_bytes().decode("ascii")
            lines = text.split("\n")
            self.assertLessEqual(len(lines), 400, path.name)
            for line in lines:
                self.assertLessEqual(len(line), 120, path.name)
                self.assertTrue(all(" " <= sign <= "~" for sign in line), path.name)
            for node in ast.walk(ast.parse(text)):
                if isinstance(node, ast.FunctionDef):
                    self.assertLessEqual(node.end_lineno - node.lineno + 1, 40, node.name)

    def test_imports_come_from_the_package_alone(self):
        for path in package_files():
            for node in ast.walk(ast.parse(path.read_text())):
                self.assertNotIsInstance(node, ast.Import)
                if isinstance(node, ast.ImportFrom):
                    self.assertTrue(node.module.startswith("lockturns."), path.name)

    def test_the_interface_is_defined_in_its_files(self):
        for name, words in INTERFACE.items():
            tree = ast.parse((PACKAGE / name).read_text())
            defined = [node.name for node in tree.body
                       if isinstance(node, (ast.FunctionDef, ast.ClassDef))]
            for word in words:
                self.assertEqual(defined.count(word), 1, word)

    def test_the_methods_are_defined_in_their_classes(self):
        for name, words in METHODS.items():
            tree = ast.parse((PACKAGE / name).read_text())
            [body] = [node.body for node in tree.body if isinstance(node, ast.ClassDef)]
            defined = [node.name for node in body if isinstance(node, ast.FunctionDef)]
            for word in words:
                self.assertEqual(defined.count(word), 1, word)

    def test_the_readme(self):
        result = doctest.testfile(str(ROOT / "README.md"), module_relative=False)
        self.assertEqual(result.failed, 0)
        self.assertGreater(result.attempted, 0)


if __name__ == "__main__":
    unittest.main()

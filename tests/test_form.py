"""The form of the package: its interface, and what of LANGUAGE.md is quickly looked at."""

import ast
import unittest
from pathlib import Path

PACKAGE = Path(__file__).resolve().parent.parent / "facesparted"

FUNCTIONS = {
    "faces/texts.py": {
        "corners_of": ["face"],
        "how_many": ["face"],
        "common_face": ["one", "other"],
        "has_all": ["one", "other"],
        "joined": ["one", "other"],
        "read_set": ["text"],
        "set_shown": ["some"],
    },
    "faces/partings.py": {
        "is_parting": ["some", "faces"],
        "sizes_of": ["some", "faces"],
        "is_finer": ["some", "one", "other"],
    },
    "least/fewest.py": {
        "fewest_faces": ["some"],
        "counts_by_faces": ["some"],
        "all_partings": ["bits"],
    },
    "least/onesize.py": {
        "parting_of_size": ["some", "stars"],
        "count_of_size": ["some", "stars"],
    },
    "least/covers.py": {
        "fewest_cover": ["some"],
        "greatest_faces": ["some"],
    },
    "least/trees.py": {
        "least_depth": ["some"],
        "fewest_leaves": ["some"],
        "is_right": ["some", "tree"],
        "parting_by": ["some", "tree"],
        "comes_by_tree": ["bits", "faces"],
    },
    "shown/odd.py": {
        "odd_counts": ["some"],
        "shows_none": ["some", "stars"],
        "least_single": ["some"],
    },
    "shown/tight.py": {
        "is_tight": ["bits", "faces"],
        "made_up": ["bits", "faces"],
        "count_tight": ["bits"],
    },
}
CLASSES = {
    "errors.py": ["FaceError", "NoParting", "NoAsk", "NoSet", "NoCorner"],
    "kept.py": ["KeptFaces"],
    "whole.py": ["Desk"],
}
METHODS = {
    "kept.py": {
        "__init__": ["self", "bits"],
        "go_corner": ["self", "corner"],
        "come_corner": ["self", "corner"],
        "faces_now": ["self"],
        "many_now": ["self"],
    },
    "whole.py": {"__init__": ["self"], "ask": ["self", "line"]},
}
LIBRARY = ("heapq", "math", "itertools", "collections")
FOLDERS = ("", "faces", "least", "shown")


def files():
    return sorted(path for path in PACKAGE.rglob("*") if path.is_file() and path.suffix != ".pyc")


def tree_of(path):
    return ast.parse(path.read_text(encoding="ascii"))


class InterfaceTest(unittest.TestCase):
    def check_defined(self, rows, wanted):
        found = {row.name: [each.arg for each in row.args.args] for row in rows if isinstance(row, ast.FunctionDef)}
        for function, arguments in wanted.items():
            self.assertEqual(found.get(function), arguments, function)

    def test_functions_are_defined_where_they_are_listed(self):
        for name, wanted in FUNCTIONS.items():
            self.check_defined(tree_of(PACKAGE / name).body, wanted)

    def test_classes_are_defined_where_they_are_listed(self):
        for name, wanted in CLASSES.items():
            found = [row.name for row in tree_of(PACKAGE / name).body if isinstance(row, ast.ClassDef)]
            self.assertEqual(found, wanted)

    def test_methods_are_defined_in_their_classes(self):
        for name, wanted in METHODS.items():
            classes = [row for row in tree_of(PACKAGE / name).body if isinstance(row, ast.ClassDef)]
            self.assertEqual(len(classes), 1)
            self.check_defined(classes[0].body, wanted)

    def test_folders_are_packages(self):
        for folder in FOLDERS:
            self.assertTrue((PACKAGE / folder / "__init__.py").is_file(), folder)


class LanguageTest(unittest.TestCase):
    def test_only_python_files(self):
        for path in files():
            self.assertEqual(path.suffix, ".py", path)

    def test_signs_and_sizes(self):
        for path in files():
            text = path.read_text(encoding="ascii")
            for sign in text:
                self.assertTrue(sign == "\n" or " " <= sign <= "~", path)
            rows = text.split("\n")
            self.assertLessEqual(len(rows), 399, path)
            for row in rows:
                self.assertLessEqual(len(row), 120, path)

    def test_functions_are_short(self):
        for path in files():
            for node in ast.walk(tree_of(path)):
                self.assertNotIsInstance(node, (ast.AsyncFunctionDef, ast.Div), path)
                if isinstance(node, ast.FunctionDef):
                    self.assertLessEqual(node.end_lineno - node.lineno + 1, 40, node.name)

    def test_imports(self):
        for path in files():
            for node in ast.walk(tree_of(path)):
                self.assertNotIsInstance(node, ast.Import, path)
                if isinstance(node, ast.ImportFrom):
                    self.assertEqual(node.level, 0, path)
                    self.assertIn(node.module.split(".")[0], ("facesparted",) + LIBRARY, path)


if __name__ == "__main__":
    unittest.main()

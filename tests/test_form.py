"""Where the interface's names are defined, and what can be counted of the form of the package's files."""

import ast
import unittest
from pathlib import Path

PACKAGE = Path(__file__).resolve().parent.parent / "saidchances"
INTERFACE = {
    "errors.py": [
        "RainError", "ByZero", "BadText", "OpenDays", "NoOutcomes", "NothingToUndo", "UnlikeProfiles", "BadNumber",
        "BadPeople", "BadLines", "BadLine", "NoCell", "BadCells", "UnknownName", "NotSaid", "BadChance", "BadActor",
        "BadScore", "BadGains", "BadStakes", "NotTwo", "BadCount", "NotReliable", "BadWeight", "BadPairs", "BadProfile",
    ],
    "naming.py": ["is_word", "is_weather"],
    "ratios.py": ["Ratio", "is_number", "is_chance", "as_ratio", "total", "least", "greatest"],
    "records.py": ["Record"],
}
METHODS = {
    ("ratios.py", "Ratio"): [
        "__init__", "top", "bottom", "__add__", "__sub__", "__mul__", "__eq__", "__neg__", "over", "size", "below",
        "__str__", "read",
    ],
    ("records.py", "Record"): [
        "__init__", "people", "cells", "said", "days", "counts", "closed", "all_days", "due", "of", "__eq__", "__str__",
        "read",
    ],
}
LIBRARY = {"math", "heapq", "itertools", "collections"}


def tree(path):
    return ast.parse(path.read_text(encoding="ascii"))


def defined(nodes):
    return {node.name: node for node in nodes if isinstance(node, (ast.FunctionDef, ast.ClassDef))}


class Form(unittest.TestCase):
    def test_names_are_defined_in_their_files(self):
        for file, names in INTERFACE.items():
            found = defined(tree(PACKAGE / file).body)
            self.assertEqual([name for name in names if name not in found], [], file)

    def test_methods_are_defined_in_their_classes(self):
        for (file, name), methods in METHODS.items():
            found = defined(defined(tree(PACKAGE / file).body)[name].body)
            self.assertEqual([method for method in methods if method not in found], [], name)

    def test_the_package_holds_only_python(self):
        for path in PACKAGE.iterdir():
            self.assertTrue(path.suffix == ".py" or path.name == "__pycache__", path)

    def test_sizes_and_signs(self):
        for path in PACKAGE.glob("*.py"):
            text = path.read_bytes().decode("ascii")
            self.assertTrue(all(sign == "\n" or " " <= sign <= "~" for sign in text), path)
            lines = text.split("\n")
            self.assertLess(len(lines), 400, path)
            self.assertLessEqual(max(len(line) for line in lines), 120, path)
            for node in ast.walk(tree(path)):
                if isinstance(node, ast.FunctionDef):
                    self.assertLessEqual(node.end_lineno - node.lineno + 1, 40, node.name)

    def test_imports_are_of_the_package_or_the_few_listed_modules(self):
        for path in PACKAGE.glob("*.py"):
            for node in ast.walk(tree(path)):
                self.assertNotIsInstance(node, ast.Import, path)
                if isinstance(node, ast.ImportFrom):
                    self.assertEqual(node.level, 0)
                    self.assertTrue(node.module.startswith("saidchances.") or node.module in LIBRARY, node.module)


if __name__ == "__main__":
    unittest.main()

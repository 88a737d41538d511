"""Where the interface's names are defined, and what can be counted of the form of the package's files."""

import ast
import builtins
import unittest
from pathlib import Path

PACKAGE = Path(__file__).resolve().parent.parent / "saidchances"
INTERFACE = {
    "errors.py": [
        "RainError", "ByZero", "BadText", "OpenDays", "NoOutcomes", "NothingToUndo", "UnlikeProfiles", "BadNumber",
        "BadPeople", "BadLines", "BadLine", "NoCell", "BadCells", "UnknownName", "NotSaid", "BadChance", "BadActor",
        "BadScore", "BadGains", "BadStakes", "NotTwo", "BadCount", "NotReliable", "BadWeight", "BadPairs", "BadProfile",
    ],
    "naming.py": ["is_word", "is_weather"],
    "ratios.py": ["Ratio", "is_number", "is_chance", "as_ratio", "total", "least", "greatest"],
    "records.py": ["Record"],
    "actors.py": ["is_actor", "is_score", "acts_on", "loss", "score_loss", "squares", "gain", "actor_of"],
    "curves.py": ["curve", "loss_on", "area", "area_between", "told_back", "worst_bars"],
    "compared.py": [
        "never_worse", "worse_actor", "is_worse_actor", "alike", "stretches", "best_stretches", "never_best",
    ],
    "righted.py": ["shares", "reliable", "unreliable", "led", "put_right", "parts", "score_parts", "square_parts"],
    "rising.py": ["is_rising", "is_blocks", "blocks", "risen", "best_cut", "order_part"],
    "hulls.py": ["alarms", "hull", "hull_height", "least_by_hull", "alarm_area", "hull_area", "ranked"],
    "sharper.py": [
        "is_profile", "says_more", "is_passing", "profile", "joined", "common", "profile_loss", "loser", "passing", "heights",
    ],
    "twos.py": ["barring", "whole_outcomes", "is_barring", "is_whole_outcomes", "whole_ways"],
    "unseen.py": [
        "outcomes", "winning_stakes", "is_outcomes", "is_winning", "sure_gain", "least_wet", "most_wet", "heard",
    ],
    "gaps.py": ["gap", "is_gap", "groups", "changed"],
    "words.py": ["distance", "best_weight", "mean", "few_words", "words_needed"],
    "book.py": ["Book"],
}
METHODS = {
    ("ratios.py", "Ratio"): [
        "__init__", "top", "bottom", "__add__", "__sub__", "__mul__", "__eq__", "__neg__", "over", "size", "below",
        "__str__", "read",
    ],
    ("records.py", "Record"): [
        "__init__", "people", "cells", "said", "days", "counts", "closed", "all_days", "due", "of", "__eq__", "__str__",
        "read",
    ],
    ("book.py", "Book"): [
        "__init__", "note", "strike", "tell", "record", "verdict", "is_verdict", "likely", "undo", "tried", "__len__",
    ],
}
LIBRARY = {"math", "heapq", "itertools", "collections"}
BUILTINS = set(
    "len range enumerate zip min max sum abs sorted reversed int str bool bytes list tuple dict set frozenset isinstance "
    "ord repr any all divmod pow Exception ValueError TypeError KeyError IndexError LookupError ZeroDivisionError "
    "NotImplemented property staticmethod classmethod".split(" ")
)
# What the language of the package leaves out, or allows in places that this package does without.
BARRED = (
    ast.Lambda, ast.GeneratorExp, ast.Yield, ast.YieldFrom, ast.Global, ast.Nonlocal, ast.With, ast.Delete, ast.Await,
    ast.AsyncFunctionDef, ast.Div, ast.MatMult, ast.Set, ast.SetComp, ast.AnnAssign, ast.NamedExpr, ast.Assert,
)


def tree(path):
    return ast.parse(path.read_text(encoding="ascii"))


def defined(nodes):
    return {node.name: node for node in nodes if isinstance(node, (ast.FunctionDef, ast.ClassDef))}


class Form(unittest.TestCase):
    def test_names_are_defined_in_their_files(self):
        for file, names in INTERFACE.items():
            found = defined(tree(PACKAGE / file).body)
            self.assertEqual([name for name in names if name not in found], [], file)

    def test_methods_are_defined_in_their_classes(self):
        for (file, name), methods in METHODS.items():
            found = defined(defined(tree(PACKAGE / file).body)[name].body)
            self.assertEqual([method for method in methods if method not in found], [], name)

    def test_the_package_holds_only_python(self):
        for path in PACKAGE.iterdir():
            self.assertTrue(path.suffix == ".py" or path.name == "__pycache__", path)

    def test_sizes_and_signs(self):
        for path in PACKAGE.glob("*.py"):
            text = path.read_bytes().decode("ascii")
            self.assertTrue(all(sign == "\n" or " " <= sign <= "~" for sign in text), path)
            lines = text.split("\n")
            self.assertLess(len(lines), 400, path)
            self.assertLessEqual(max(len(line) for line in lines), 120, path)
            for node in ast.walk(tree(path)):
                if isinstance(node, ast.FunctionDef):
                    self.assertLessEqual(node.end_lineno - node.lineno + 1, 40, node.name)

    def test_what_the_language_leaves_out(self):
        for path in PACKAGE.glob("*.py"):
            for node in ast.walk(tree(path)):
                self.assertNotIsInstance(node, BARRED, path)
                if isinstance(node, ast.Constant):
                    self.assertIn(type(node.value), (int, str, bool, type(None)), path)
                    self.assertNotIn("%", node.value if isinstance(node.value, str) else "", path)
                # The interpreter's shell, and what tests its answers, keep the last one as the builtin _.
                if isinstance(node, ast.Name) and node.id != "_" and hasattr(builtins, node.id):
                    self.assertIn(node.id, BUILTINS, path)
                    self.assertIsInstance(node.ctx, ast.Load, path)

    def test_what_is_iterated_at_once_is_not_starred(self):
        for path in PACKAGE.glob("*.py"):
            for node in ast.walk(tree(path)):
                if isinstance(node, ast.Starred) and isinstance(node.value, ast.Call):
                    name = getattr(node.value.func, "id", getattr(node.value.func, "attr", None))
                    self.assertNotIn(name, ("range", "zip", "enumerate", "reversed", "items", "keys", "values"), path)

    def test_names_are_bound_once(self):
        for path in PACKAGE.glob("*.py"):
            nodes = list(ast.walk(tree(path)))
            taken = [name.name for node in nodes if isinstance(node, ast.ImportFrom) for name in node.names]
            taken += [node.name for node in nodes if isinstance(node, ast.ClassDef)]
            self.assertEqual(len(taken), len(set(taken)), path)
            bound = [node.id for node in nodes if isinstance(node, ast.Name) and isinstance(node.ctx, ast.Store)]
            bound += [node.arg for node in nodes if isinstance(node, ast.arg)]
            bound += [node.name for node in nodes if isinstance(node, ast.FunctionDef)]
            self.assertEqual([name for name in bound if name in taken], [], path)

    def test_exponents_are_small_literals(self):
        for path in PACKAGE.glob("*.py"):
            for node in ast.walk(tree(path)):
                if isinstance(node, ast.BinOp) and isinstance(node.op, ast.Pow):
                    self.assertIn(ast.literal_eval(node.right), range(65), path)

    def test_no_two_files_import_from_each_other(self):
        needs = {}
        for path in PACKAGE.glob("*.py"):
            modules = [node.module for node in ast.walk(tree(path)) if isinstance(node, ast.ImportFrom)]
            needs[path.stem] = [module.split(".")[1] for module in modules if "." in module]
        while needs:
            ready = [name for name, others in needs.items() if not any(other in needs for other in others)]
            self.assertNotEqual(ready, [], sorted(needs))
            for name in ready:
                del needs[name]

    def test_imports_are_of_the_package_or_the_few_listed_modules(self):
        for path in PACKAGE.glob("*.py"):
            for node in ast.walk(tree(path)):
                self.assertNotIsInstance(node, ast.Import, path)
                if isinstance(node, ast.ImportFrom):
                    self.assertEqual(node.level, 0)
                    self.assertTrue(node.module.startswith("saidchances.") or node.module in LIBRARY, node.module)


if __name__ == "__main__":
    unittest.main()

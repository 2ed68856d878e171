"""The interface as it is listed: names, signatures, the files that define them; and the form of the files."""

import ast
import inspect
import unittest
from pathlib import Path

from checkdigits import alike, counting, fixing, gaps, rules, slips, texts, weights
from checkdigits.console import Console
from checkdigits.entries import Entry
from checkdigits.rules import Rule

PACKAGE = Path(inspect.getfile(rules)).parent
FUNCTIONS = {
    counting: {
        "count_valid": "(rule)",
        "nth_valid": "(rule, number)",
        "valid_number": "(rule, code)",
        "count_below": "(rule, code)",
        "next_valid": "(rule, code)",
    },
    gaps: {
        "count_fillings": "(rule, partial)",
        "nth_filling": "(rule, partial, number)",
        "digits_at": "(rule, partial, place)",
        "sure_digits": "(rule, partial)",
    },
    slips: {
        "unnoticed": "(rule, kind)",
        "notices": "(rule, kind)",
        "unnoticed_kinds": "(rule, reach)",
        "count_slips": "(rule, kind)",
    },
    weights: {
        "least_divisor": "(base, modulus)",
        "longest": "(base, modulus, *, twins=False)",
        "good_weights": "(base, modulus, places, reach, *, twins=False)",
        "weak_kind": "(base, modulus, weights, reach, *, twins=False)",
    },
    fixing: {
        "sums_of": "(rules, code)",
        "fixes": "(rules, code)",
        "tells_changes": "(rules)",
        "equal_steps": "(rules)",
        "is_equal_steps": "(rules, value)",
    },
    alike: {
        "same_codes": "(rule, other)",
        "telling_code": "(rule, other)",
    },
    texts: {
        "format_code": "(code)",
        "parse_code": "(text, base)",
        "parse_partial": "(text, base)",
        "format_weights": "(base, modulus, weights, remainder)",
        "parse_weights": "(text)",
    },
}
OF_RULE = (
    "weighted", "modulus", "rows", "remainder", "base", "MOST_PLACES",
    "__init__", "__len__", "__call__", "__contains__", "__invert__", "__eq__",
)
OF_ENTRY = (
    "push", "undo", "open_digits", "ending", "copy_of", "typed", "sum_now", "rule", "__init__", "__len__", "__eq__",
)
LIBRARY = {"heapq", "math", "itertools", "collections", "__future__"}


def trees():
    return [(path, ast.parse(path.read_text("utf-8"))) for path in sorted(PACKAGE.rglob("*.py"))]


class InterfaceTest(unittest.TestCase):
    def test_functions(self):
        for module, functions in FUNCTIONS.items():
            for name, signature in functions.items():
                function = getattr(module, name)
                self.assertEqual(str(inspect.signature(function)), signature)
                self.assertEqual(function.__module__, module.__name__)

    def test_rule(self):
        self.assertEqual(Rule.__module__, "checkdigits.rules")
        self.assertEqual([name for name in OF_RULE if name not in vars(Rule)], [])
        self.assertEqual(str(inspect.signature(Rule)), "(modulus, rows, remainder)")
        self.assertEqual(str(inspect.signature(Rule.weighted)), "(base, modulus, weights, remainder=0)")
        self.assertEqual(str(inspect.signature(Rule.__call__)), "(self, code)")
        for name in ("modulus", "rows", "remainder", "base"):
            self.assertIsInstance(vars(Rule)[name], property)

    def test_entry(self):
        self.assertEqual(Entry.__module__, "checkdigits.entries")
        self.assertEqual([name for name in OF_ENTRY if name not in vars(Entry)], [])
        self.assertEqual(str(inspect.signature(Entry)), "(rule)")
        self.assertEqual(str(inspect.signature(Entry.push)), "(self, *digits)")
        for name in ("undo", "open_digits", "ending", "copy_of"):
            self.assertEqual(str(inspect.signature(getattr(Entry, name))), "(self)")
        for name in ("typed", "sum_now", "rule"):
            self.assertIsInstance(vars(Entry)[name], property)

    def test_console(self):
        self.assertEqual(Console.__module__, "checkdigits.console")
        self.assertIn("execute", vars(Console))
        self.assertEqual(str(inspect.signature(Console)), "()")
        self.assertEqual(str(inspect.signature(Console.execute)), "(self, line)")


class FormTest(unittest.TestCase):
    def test_only_python_files(self):
        others = [path for path in PACKAGE.rglob("*") if path.suffix != ".py" and path.name != "__pycache__"]
        self.assertEqual([path for path in others if path.suffix != ".pyc"], [])

    def test_signs_and_sizes(self):
        for path, _ in trees():
            text = path.read_text("utf-8")
            self.assertEqual({sign for sign in text if not (sign == "\n" or " " <= sign <= "~")}, set(), path)
            self.assertLess(len(text.splitlines()), 400, path)
            self.assertLessEqual(max(len(line) for line in text.splitlines()), 120, path)

    def test_size_of_functions(self):
        for path, tree in trees():
            for node in ast.walk(tree):
                if isinstance(node, ast.FunctionDef):
                    self.assertLessEqual(node.end_lineno - node.lineno, 39, (path, node.name))

    def test_imports(self):
        for path, tree in trees():
            for node in ast.walk(tree):
                self.assertNotIsInstance(node, ast.Import, path)
                if isinstance(node, ast.ImportFrom):
                    self.assertEqual(node.level, 0, path)
                    self.assertIn(node.module.split(".")[0], {"checkdigits", *LIBRARY}, path)
                    self.assertNotIn("*", [name.name for name in node.names], path)


if __name__ == "__main__":
    unittest.main()

"""The form of the code: what of LANGUAGE.md is seen without reading it all, and the interface."""

import ast
import importlib
import inspect
import os
import unittest

HERE = os.path.dirname(os.path.abspath(__file__))
PACKAGE = os.path.join(os.path.dirname(HERE), "leanround")
LIBRARY = ("heapq", "math", "itertools", "collections")
INTERFACE = {
    "errors": {
        "LeanError": None, "NoBook": ["word", "name"], "NoStep": ["at"], "TooMany": ["most"],
        "Loose": ["ring"], "TooLong": ["most"], "NoJoin": None, "NoPlain": ["at"],
        "BadText": ["row"], "NoRow": None, "Unknown": ["name"], "NoNode": ["at"]},
    "terms": {
        "is_name": ["text"], "parts": ["term"], "deep": ["term"], "size": ["thing"],
        "names_in": ["terms"], "under": ["term", "pairs"]},
    "fitting": {"matched": ["terms", "others"], "fitted": ["terms", "others"]},
}


def files():
    return sorted(name for name in os.listdir(PACKAGE) if name != "__pycache__")


def text_of(name):
    with open(os.path.join(PACKAGE, name), encoding="utf-8") as file:
        return file.read()


class Form(unittest.TestCase):
    def test_files(self):
        for name in files():
            self.assertRegex(name, r"^[a-z0-9_]+\.py$")
        self.assertIn("__init__.py", files())

    def test_signs_and_lengths(self):
        for name in files():
            text = text_of(name)
            self.assertTrue(all(sign == "\n" or " " <= sign <= "~" for sign in text), name)
            self.assertTrue(text.endswith("\n"), name)
            rows = text.split("\n")
            self.assertLessEqual(len(rows), 400, name)
            self.assertLessEqual(max(len(row) for row in rows), 120, name)

    def test_functions_are_short(self):
        for name in files():
            for node in ast.walk(ast.parse(text_of(name))):
                if isinstance(node, ast.FunctionDef):
                    many = node.end_lineno - node.lineno + 1
                    self.assertLessEqual(many, 40, f"{name}: {node.name}")

    def test_imports(self):
        for name in files():
            tree = ast.parse(text_of(name))
            for node in ast.walk(tree):
                self.assertNotIsInstance(node, ast.Import, name)
                if isinstance(node, ast.ImportFrom):
                    self.assertIn(node, tree.body, name)
                    self.assertEqual(node.level, 0, name)
                    self.assertNotIn("*", [told.name for told in node.names])
                    front = node.module.split(".")[0]
                    self.assertIn(front, ("leanround", *LIBRARY), name)

    def test_texts(self):
        for name in files():
            for node in ast.walk(ast.parse(text_of(name))):
                if isinstance(node, ast.Constant):
                    self.assertNotIsInstance(node.value, (float, complex), name)
                    if isinstance(node.value, str):
                        self.assertNotIn(chr(37), node.value, name)

    def test_interface(self):
        for file, names in INTERFACE.items():
            module = importlib.import_module("leanround." + file)
            for name, fields in names.items():
                told = getattr(module, name)
                self.assertEqual(told.__module__, "leanround." + file)
                if fields is not None:
                    self.assertEqual(list(inspect.signature(told).parameters), fields, name)


if __name__ == "__main__":
    unittest.main()

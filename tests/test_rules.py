"""The rules of the language that can be seen in the package's files, and its interface."""

import ast
import builtins
import importlib
import os
import re
import unittest

FOLDER = os.path.join(os.path.dirname(os.path.dirname(os.path.abspath(__file__))), "latehall")
FILES = sorted([name for name in os.listdir(FOLDER) if name != "__pycache__"])
ALLOWED = {"len", "range", "enumerate", "zip", "min", "max", "sum", "abs", "sorted", "reversed", "int", "str", "bool",
           "list", "tuple", "dict", "set", "isinstance", "ord", "repr", "any", "all", "divmod"}
BUILTINS = set(dir(builtins))
ERRORS = {"ValueError", "KeyError", "IndexError", "LookupError", "RuntimeError", "OverflowError"}

# The functions and classes of the interface that have landed, by their files.
INTERFACE = {
    "errors": ["NoLibrary", "Unmet", "Closed", "Ended", "NoWord", "Full", "NoText", "NotTaken", "Vacant", "NoRow"],
    "libraries": ["is_library", "is_shelf"],
    "texts": ["shown", "shown_shelf", "read", "read_shelf"],
}


def text_of(name):
    with open(os.path.join(FOLDER, name), "rb") as file:
        return file.read().decode("ascii")


def names_bound(tree):
    for node in ast.walk(tree):
        if isinstance(node, (ast.FunctionDef, ast.ClassDef)):
            yield node.name
        elif isinstance(node, ast.arg):
            yield node.arg
        elif isinstance(node, ast.Name) and isinstance(node.ctx, ast.Store):
            yield node.id


class Rules(unittest.TestCase):
    def setUp(self):
        self.texts = {name: text_of(name) for name in FILES}
        self.trees = {name: ast.parse(self.texts[name]) for name in FILES}

    def nodes(self):
        return [(name, node) for name in FILES for node in ast.walk(self.trees[name])]

    def test_files(self):
        self.assertIn("__init__.py", FILES)
        for name in FILES:
            self.assertRegex(name, r"^[a-z_]+\.py$")

    def test_signs_and_sizes(self):
        for name, text in self.texts.items():
            self.assertIsNone(re.search(r"[^ -~\n]", text), name)
            lines = text.splitlines()
            self.assertLess(len(lines), 400, name)
            self.assertLessEqual(max([len(line) for line in lines]), 120, name)
        for name, node in self.nodes():
            if isinstance(node, ast.FunctionDef):
                self.assertLessEqual(node.end_lineno - node.lineno + 1, 40, (name, node.name))

    def test_imports(self):
        for name, node in self.nodes():
            self.assertNotIsInstance(node, ast.Import, name)
            if isinstance(node, ast.ImportFrom):
                self.assertIn(node, self.trees[name].body)
                self.assertTrue(node.module.startswith("latehall."), name)
                self.assertEqual((node.level, [part.asname for part in node.names if part.asname]), (0, []), name)

    def test_module_level(self):
        for name, tree in self.trees.items():
            for node in tree.body:
                is_docstring = isinstance(node, ast.Expr) and isinstance(node.value, ast.Constant)
                kinds = (ast.ImportFrom, ast.FunctionDef, ast.ClassDef, ast.Assign)
                self.assertTrue(is_docstring or isinstance(node, kinds), (name, ast.dump(node)))
                if isinstance(node, ast.Assign):
                    self.assertFalse([part for part in ast.walk(node) if isinstance(part, ast.Call)], name)

    def test_names(self):
        for name, tree in self.trees.items():
            for word in names_bound(tree):
                self.assertNotIn(word, BUILTINS, name)
        for name, node in self.nodes():
            if isinstance(node, ast.Name) and node.id in BUILTINS:
                self.assertIn(node.id, ALLOWED | ERRORS, name)

    def test_strings_and_numbers(self):
        for name, node in self.nodes():
            if isinstance(node, ast.Constant):
                self.assertNotIsInstance(node.value, float, name)
                self.assertFalse(isinstance(node.value, str) and "%" in node.value, name)
            self.assertNotIsInstance(getattr(node, "op", None), ast.Div, name)


class Interface(unittest.TestCase):
    def test_each_is_defined_in_its_file(self):
        for name, words in INTERFACE.items():
            module = importlib.import_module("latehall." + name)
            for word in words:
                self.assertEqual(getattr(module, word).__module__, "latehall." + name)


if __name__ == "__main__":
    unittest.main()

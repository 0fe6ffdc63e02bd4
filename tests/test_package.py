"""The package keeps to what LANGUAGE.md says of files, names and sizes."""

import ast
import os
import unittest
import warnings

ROOT = os.path.dirname(os.path.dirname(os.path.abspath(__file__)))
PACKAGE = os.path.join(ROOT, "sealedreach")
DEFINED = {
    "errors": ("ReachError", "NoFields", "NoBounds", "NoOffset", "NoAddress", "NoWord", "NoHands",
               "NoRule", "NoNumber", "NoLine", "Fault", "NoRows", "NoText", "NoDeeds",
               "NoCompartment", "TooMany", "NoName", "Sweeping", "NoSweep"),
    "words": ("is_word", "is_rights", "is_lawful", "fields_of", "word_of", "plain"),
    "bounds": ("is_exact", "least_bounds", "in_bits", "room_of", "greatest_high"),
    "lesser": ("lies_within", "walked", "narrowed", "lessened", "sealed", "opened", "entry"),
    "cells": ("Cells",),
    "rows": ("look_at_rows",),
    "rowtexts": ("shown_rows", "read_rows"),
    "compartments": ("look_at_compartments",),
    "loader": ("loaded",),
}
METHODS = {
    ("cells", "Cells"): ("load", "store", "poke", "lay", "clear", "cell", "marked", "twin", "__eq__"),
}
BUILTINS = set("""len range enumerate zip min max sum abs sorted reversed int str bool bytes list
    tuple dict set frozenset isinstance ord repr any all divmod map iter next Exception ValueError
    TypeError KeyError IndexError LookupError ZeroDivisionError ArithmeticError OverflowError
    RuntimeError NotImplementedError AttributeError StopIteration NotImplemented""".split())
ALL_BUILTINS = set(dir(__builtins__) if not isinstance(__builtins__, dict) else __builtins__)


def package_files():
    found = []
    for folder, _, names in os.walk(PACKAGE):
        if os.path.basename(folder) != "__pycache__":
            found.extend(os.path.join(folder, name) for name in sorted(names))
    return found


def text_of(path):
    with open(path, encoding="utf-8") as held:
        return held.read()


class Package(unittest.TestCase):
    def trees(self):
        for path in package_files():
            yield path, ast.parse(text_of(path))

    def test_only_plain_files(self):
        self.assertIn(os.path.join(PACKAGE, "__init__.py"), package_files())
        for path in package_files():
            self.assertRegex(os.path.basename(path), r"^([a-z][a-z0-9_]*|__init__|__main__)\.py$")

    def test_python_warns_of_nothing(self):
        for path in package_files():
            with warnings.catch_warnings():
                warnings.simplefilter("error")
                compile(text_of(path), path, "exec")

    def test_signs_and_sizes(self):
        for path in package_files():
            text = text_of(path)
            self.assertTrue(all(sign == "\n" or " " <= sign <= "~" for sign in text), path)
            self.assertLessEqual(len(text.splitlines()), 399, path)
            self.assertLessEqual(max(map(len, text.splitlines())), 120, path)

    def test_functions_are_small_and_undecorated(self):
        for path, tree in self.trees():
            for node in ast.walk(tree):
                if isinstance(node, ast.FunctionDef):
                    self.assertLessEqual(node.end_lineno - node.lineno + 1, 40, (path, node.name))
                    self.assertEqual(node.decorator_list, [], (path, node.name))

    def test_imports_only_from_the_package(self):
        for path, tree in self.trees():
            for node in ast.walk(tree):
                self.assertNotIsInstance(node, ast.Import, path)
                if isinstance(node, ast.ImportFrom):
                    self.assertEqual(node.level, 0, path)
                    self.assertRegex(node.module, r"^(sealedreach\.[a-z]+|heapq|math|itertools)$")

    def test_only_told_builtins(self):
        for path, tree in self.trees():
            for node in ast.walk(tree):
                if isinstance(node, ast.Name) and node.id in ALL_BUILTINS:
                    self.assertIn(node.id, BUILTINS, path)
                    self.assertIsInstance(node.ctx, ast.Load, path)

    def test_no_percent_sign_in_a_text(self):
        for path, tree in self.trees():
            for node in ast.walk(tree):
                if isinstance(node, ast.Constant) and isinstance(node.value, str):
                    self.assertNotIn("%", node.value, path)

    def test_interface_is_defined_in_its_files(self):
        for name, wanted in DEFINED.items():
            tree = ast.parse(text_of(os.path.join(PACKAGE, name + ".py")))
            there = [node.name for node in tree.body
                     if isinstance(node, (ast.FunctionDef, ast.ClassDef))]
            for one in wanted:
                self.assertEqual(there.count(one), 1, one)

    def test_methods_are_defined_in_the_class_itself(self):
        for (name, told), wanted in METHODS.items():
            tree = ast.parse(text_of(os.path.join(PACKAGE, name + ".py")))
            made = [node for node in tree.body
                    if isinstance(node, ast.ClassDef) and node.name == told]
            there = [node.name for node in made[0].body if isinstance(node, ast.FunctionDef)]
            for one in wanted:
                self.assertEqual(there.count(one), 1, one)


if __name__ == "__main__":
    unittest.main()

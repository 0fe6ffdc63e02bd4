"""The package keeps to what LANGUAGE.md says of files, names and sizes."""

import ast
import os
import unittest
import warnings

ROOT = os.path.dirname(os.path.dirname(os.path.abspath(__file__)))
PACKAGE = os.path.join(ROOT, "sealedreach")
DEFINED = {
    "errors": ("ReachError", "NoFields", "NoBounds", "NoOffset", "NoAddress", "NoWord", "NoHands",
               "NoRule", "NoNumber", "NoLine", "Fault", "NoRows", "NoText", "NoDeeds",
               "NoCompartment", "TooMany", "NoName", "Sweeping", "NoSweep"),
    "words": ("is_word", "is_rights", "is_lawful", "fields_of", "word_of", "plain"),
    "bounds": ("is_exact", "least_bounds", "in_bits", "room_of", "greatest_high"),
    "lesser": ("lies_within", "walked", "narrowed", "lessened", "sealed", "opened", "entry"),
    "cells": ("Cells",),
    "rows": ("look_at_rows",),
    "rowtexts": ("shown_rows", "read_rows"),
    "compartments": ("look_at_compartments",),
    "loader": ("loaded",),
    "machine": ("Machine",),
    "reach": ("is_closed", "reach", "lets_be"),
    "rules": ("breaking", "played"),
    "texts": ("shown_word", "shown", "read_word", "read"),
    "desk": ("Desk",),
}
METHODS = {
    ("cells", "Cells"): ("load", "store", "poke", "lay", "clear", "cell", "marked", "twin", "__eq__"),
    ("machine", "Machine"): ("__init__", "step", "run", "boxes", "shelf_words", "own_words", "touches",
                             "standing", "taken", "given", "row_word", "cell", "depth", "steps",
                             "told", "begin_sweep", "sweep", "swept", "twin", "__eq__"),
    ("desk", "Desk"): ("__init__", "say"),
}
BUILTINS = set("""len range enumerate zip min max sum abs sorted reversed int str bool bytes list
    tuple dict set frozenset isinstance ord repr any all divmod map iter next Exception ValueError
    TypeError KeyError IndexError LookupError ZeroDivisionError ArithmeticError OverflowError
    RuntimeError NotImplementedError AttributeError StopIteration NotImplemented""".split())
# Methods of builtin values that the language allows, and that the package has use for.
OF_BUILTINS = set("""append clear copy count endswith extend find get index insert isalnum isalpha
    isdigit islower isspace isupper items join keys ljust lower lstrip partition pop remove replace
    reverse rfind rjust rpartition rsplit rstrip setdefault split splitlines startswith strip update
    upper values zfill bit_length removeprefix removesuffix isascii isdecimal""".split())
BARRED = set("""register mro elements open input law version_info with_traceback add_note attrgetter
    breakpoint builtins compile copyright credits delattr dir eval exec exit gc getattr globals
    hasattr help id importlib license locals methodcaller os quit setattr super type vars sys
    format format_map""".split())
ALL_BUILTINS = set(dir(__builtins__) if not isinstance(__builtins__, dict) else __builtins__)


def package_files():
    found = []
    for folder, _, names in os.walk(PACKAGE):
        if os.path.basename(folder) != "__pycache__":
            found.extend(os.path.join(folder, name) for name in sorted(names))
    return found


def text_of(path):
    with open(path, encoding="utf-8") as held:
        return held.read()


class Package(unittest.TestCase):
    def trees(self):
        for path in package_files():
            yield path, ast.parse(text_of(path))

    def test_only_plain_files(self):
        self.assertIn(os.path.join(PACKAGE, "__init__.py"), package_files())
        for path in package_files():
            self.assertRegex(os.path.basename(path), r"^([a-z][a-z0-9_]*|__init__|__main__)\.py$")

    def test_python_warns_of_nothing(self):
        for path in package_files():
            with warnings.catch_warnings():
                warnings.simplefilter("error")
                compile(text_of(path), path, "exec")

    def test_signs_and_sizes(self):
        for path in package_files():
            text = text_of(path)
            self.assertTrue(all(sign == "\n" or " " <= sign <= "~" for sign in text), path)
            self.assertLessEqual(len(text.splitlines()), 399, path)
            self.assertLessEqual(max(map(len, text.splitlines())), 120, path)

    def test_functions_are_small_and_undecorated(self):
        for path, tree in self.trees():
            for node in ast.walk(tree):
                if isinstance(node, ast.FunctionDef):
                    self.assertLessEqual(node.end_lineno - node.lineno + 1, 40, (path, node.name))
                    self.assertEqual(node.decorator_list, [], (path, node.name))

    def test_imports_only_from_the_package(self):
        for path, tree in self.trees():
            for node in ast.walk(tree):
                self.assertNotIsInstance(node, ast.Import, path)
                if isinstance(node, ast.ImportFrom):
                    self.assertEqual(node.level, 0, path)
                    self.assertRegex(node.module, r"^(sealedreach\.[a-z]+|heapq|math|itertools)$")

    def test_only_told_builtins(self):
        for path, tree in self.trees():
            for node in ast.walk(tree):
                if isinstance(node, ast.Name) and node.id in ALL_BUILTINS:
                    self.assertIn(node.id, BUILTINS, path)
                    self.assertIsInstance(node.ctx, ast.Load, path)

    def test_no_percent_sign_in_a_text(self):
        for path, tree in self.trees():
            for node in ast.walk(tree):
                if isinstance(node, ast.Constant) and isinstance(node.value, str):
                    self.assertNotIn("%", node.value, path)

    def test_no_barred_names(self):
        for path, tree in self.trees():
            for node in ast.walk(tree):
                names = [getattr(node, part, None) for part in ("id", "name", "arg", "attr")]
                for name in names:
                    self.assertNotIn(name, BARRED, path)
                    if isinstance(name, str) and not name.endswith("__"):
                        self.assertNotRegex(name, "^(__|_wall|_pe_|_lay_|_law_|_stub_|_record|_outside)")

    def test_only_told_methods(self):
        own = {node.name for _, tree in self.trees() for node in ast.walk(tree)
               if isinstance(node, ast.FunctionDef)}
        for path, tree in self.trees():
            for node in ast.walk(tree):
                if isinstance(node, ast.Call) and isinstance(node.func, ast.Attribute):
                    self.assertIn(node.func.attr, own | OF_BUILTINS, path)

    def test_no_method_is_an_attribute(self):
        methods, attributes = set(), set()
        for _, tree in self.trees():
            for node in ast.walk(tree):
                if isinstance(node, ast.ClassDef):
                    methods |= {one.name for one in node.body if isinstance(one, ast.FunctionDef)}
                if isinstance(node, ast.Attribute) and isinstance(node.ctx, ast.Store):
                    attributes.add(node.attr)
        self.assertFalse(methods & attributes)

    def test_no_name_is_that_of_an_import(self):
        for path, tree in self.trees():
            held = {one.asname or one.name for node in tree.body
                    if isinstance(node, ast.ImportFrom) for one in node.names}
            held |= {node.name for node in tree.body if isinstance(node, ast.ClassDef)}
            for node in ast.walk(tree):
                if isinstance(node, ast.arg):
                    self.assertNotIn(node.arg, held, path)
                if isinstance(node, ast.Name) and isinstance(node.ctx, ast.Store):
                    self.assertNotIn(node.id, held, path)

    def test_imports_are_used_and_go_one_way(self):
        ahead = {}
        for path, tree in self.trees():
            used = {node.id for node in ast.walk(tree) if isinstance(node, ast.Name)}
            nodes = [node for node in tree.body if isinstance(node, ast.ImportFrom)]
            for node in nodes:
                for one in node.names:
                    self.assertIn(one.name, used, path)
            ahead[os.path.basename(path)[:-3]] = {node.module.split(".")[1] for node in nodes}
        while ahead:
            free = [name for name, others in ahead.items() if not others & set(ahead)]
            self.assertTrue(free, ahead)
            for name in free:
                del ahead[name]

    def test_no_barred_forms(self):
        barred = (ast.Set, ast.SetComp, ast.GeneratorExp, ast.AsyncFunctionDef, ast.Global, ast.Div,
                  ast.Lambda, ast.With, ast.Match, ast.AnnAssign, ast.Await)
        for path, tree in self.trees():
            for node in ast.walk(tree):
                self.assertNotIsInstance(node, barred, path)
                if isinstance(node, ast.Compare):
                    for one, other in zip(node.ops, node.comparators):
                        if isinstance(one, (ast.Is, ast.IsNot)):
                            self.assertIn(getattr(other, "value", 0), (None, True, False), path)
                if isinstance(node, ast.Constant):
                    self.assertNotIsInstance(node.value, (float, complex, bytes), path)

    def test_interface_is_defined_in_its_files(self):
        for name, wanted in DEFINED.items():
            tree = ast.parse(text_of(os.path.join(PACKAGE, name + ".py")))
            there = [node.name for node in tree.body
                     if isinstance(node, (ast.FunctionDef, ast.ClassDef))]
            for one in wanted:
                self.assertEqual(there.count(one), 1, one)

    def test_methods_are_defined_in_the_class_itself(self):
        for (name, told), wanted in METHODS.items():
            tree = ast.parse(text_of(os.path.join(PACKAGE, name + ".py")))
            made = [node for node in tree.body
                    if isinstance(node, ast.ClassDef) and node.name == told]
            there = [node.name for node in made[0].body if isinstance(node, ast.FunctionDef)]
            for one in wanted:
                self.assertEqual(there.count(one), 1, one)


if __name__ == "__main__":
    unittest.main()

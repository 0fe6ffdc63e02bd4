"""Every name of the interface, its arguments by places and by names, and where it is defined."""

import importlib
import inspect
import unittest

# Of each module: each function with its arguments, as the interface writes them.
FUNCTIONS = {
    "words": ("is_word(thing)", "is_rights(thing)", "is_lawful(thing)", "fields_of(word)",
              "word_of(fields, *, marked=True)", "plain(number)"),
    "bounds": ("is_exact(low, high)", "least_bounds(low, high)", "in_bits(low, high)",
               "room_of(many)", "greatest_high(low, high)"),
    "lesser": ("lies_within(one, other)", "walked(word, number)",
               "narrowed(word, many, *, exact=False)", "lessened(word, rights)",
               "sealed(word, other)", "opened(word, other)", "entry(word)"),
    "rows": ("look_at_rows(thing)",),
    "rowtexts": ("shown_rows(rows)", "read_rows(text)"),
    "compartments": ("look_at_compartments(thing)",),
    "loader": ("loaded(compartments, *, stack=64)",),
    "reach": ("is_closed(machine, thing, *, gates=False)", "reach(machine, *, gates=False)",
              "lets_be(table, machine, *, since=0)"),
    "rules": ("breaking(rule)", "played(machine, deeds)"),
    "texts": ("shown_word(word)", "shown(compartments)", "read_word(text)", "read(text)"),
}
CLASSES = {
    "cells.Cells": ("__init__()", "load(word, offset)", "store(word, offset, what)",
                    "poke(word, offset, number)", "lay(address, word)", "clear(low, high)",
                    "cell(address)", "marked(low=0, high=4096)", "twin()", "__eq__(other)"),
    "machine.Machine": ("__init__(compartments, begin, *, stack=64, hands=None, without=None)",
                        "step()", "run(most)", "boxes()", "shelf_words()", "own_words()", "touches()",
                        "standing()", "taken()", "given()", "row_word()", "cell(address)", "depth()",
                        "steps()", "told()", "begin_sweep()", "sweep(many)", "swept()", "twin()",
                        "__eq__(other)"),
    "desk.Desk": ("__init__()", "say(row)"),
}
ERRORS = {"NoFields": ("text",), "NoBounds": ("text",), "NoOffset": ("text",), "NoAddress": ("text",),
          "NoWord": ("text",), "NoHands": ("text",), "NoRule": ("text",), "NoNumber": ("text",),
          "NoLine": ("text",), "Fault": ("word",), "NoRows": ("number",), "NoText": ("number",),
          "NoDeeds": ("number",), "NoCompartment": ("number", "part")}
APART = {"TooMany": (OverflowError, "size"), "NoName": (KeyError, "name"),
         "Sweeping": (RuntimeError, "text"), "NoSweep": (LookupError, "text")}
VALUES = {"words.RIGHTS": "rwlsnfxco", "loader.STACK": 64,
          "rules.RULES": ("poke", "narrow", "less", "open", "sealed", "load", "near", "entry",
                          "clear", "strike", "barrier")}


def module(name):
    return importlib.import_module("sealedreach." + name)


class Interface(unittest.TestCase):
    def test_functions(self):
        for name, wanted in FUNCTIONS.items():
            for text in wanted:
                told = getattr(module(name), text.partition("(")[0])
                self.assertEqual(told.__name__ + str(inspect.signature(told)), text)
                self.assertEqual(told.__module__, "sealedreach." + name)

    def test_classes(self):
        for place, wanted in CLASSES.items():
            name, _, called = place.partition(".")
            told = getattr(module(name), called)
            self.assertEqual(told.__module__, "sealedreach." + name)
            for text in wanted:
                method = told.__dict__[text.partition("(")[0]]
                arguments = str(inspect.signature(method)).replace("(self, ", "(").replace("(self", "(")
                self.assertEqual(method.__name__ + arguments, text)

    def test_errors(self):
        errors = module("errors")
        self.assertEqual(errors.ReachError.__bases__, (ValueError,))
        for name, fields in ERRORS.items():
            told = getattr(errors, name)
            self.assertEqual((told.__bases__, told.__module__), ((errors.ReachError,), errors.__name__))
            held = told(*[[name] for _ in fields])
            for field in fields:
                self.assertEqual(getattr(held, field), [name])
        for name, (base, field) in APART.items():
            told = getattr(errors, name)
            self.assertEqual((told.__bases__, told.__module__), ((base,), errors.__name__))
            self.assertEqual(getattr(told([name]), field), [name])

    def test_values(self):
        for place, wanted in VALUES.items():
            name, _, called = place.partition(".")
            self.assertEqual(getattr(module(name), called), wanted)


if __name__ == "__main__":
    unittest.main()

"""What a workshop answers for each word, and the names, arguments and errors of the whole interface [4, 40]."""

import ast
import copy
import importlib
import inspect
import itertools
import pathlib
import unittest

import samples
import test_arguments
from clobberwalk import errors
from clobberwalk.desk import Desk
from clobberwalk.limits import Limits
from clobberwalk.machine import run
from clobberwalk.texts import read_line, read_module, show_module
from clobberwalk.workshop import CountingWorkshop, GuardedCountingWorkshop, GuardedWorkshop, Workshop

RICH = samples.RICH
FOLDER = pathlib.Path(__file__).resolve().parent.parent / "clobberwalk"
CLASSES = (Workshop, GuardedWorkshop, CountingWorkshop, GuardedCountingWorkshop)

# What each file of the interface defines, and the names of the arguments; those behind * go by name alone.
INTERFACE = {
    "modules": {"module_error": "value"},
    "machine": {"run": "module inputs limit", "touched": "module inputs limit"},
    "graphs": {
        "reached": "module f", "dominates": "module f block other", "way_around": "module f block other",
        "immediate_dominator": "module f block", "frontier": "module f block", "post_dominates": "module f block other",
        "loops": "module f", "depth": "module f block", "is_reducible": "module f",
    },
    "facts": {
        "holds": "module f local", "given_by": "module f", "kept": "module place", "live": "module", "goals": "module place",
        "facts": "module",
    },
    "derivations": {"why_fact": "module fact", "is_derivation": "module fact value", "is_closed": "module facts live"},
    "faults": {"words": "module place", "is_sure": "module place", "sorts": "module f local"},
    "calls": {
        "calls": "module f", "callers": "module f", "can_call": "module f", "rings": "module", "level": "module f", "chain": "module f",
        "is_chain": "module f value",
    },
    "effects": {
        "cells": "module place", "reads": "module f", "writes": "module f", "open_reads": "module f", "open_writes": "module f",
        "shows": "module f", "is_calm": "module f", "call_effects": "module place", "reach": "module things",
    },
    "escape": {
        "leaves": "module place", "leaving": "module f", "staying": "module f", "why_leaves": "module place",
        "is_path": "module place value", "shows_staying": "module place value",
    },
    "views": {
        "views": "module f", "holds_in": "module f local view", "given_in": "module f view", "kept_split": "module place",
        "goals_split": "module place",
    },
    "versions": {"meets": "module place other", "writers": "module place", "clobber": "module place", "seen": "module place"},
    "steps": {"steps": "module", "after": "module step", "passed": "module", "is_row": "module value other"},
    "parting": {"parted": "module other * greatest limit"},
    "texts": {"show_module": "module", "read_module": "text", "show_line": "thing", "read_line": "text"},
}
METHODS = {
    "from_text": "text", "text": "", "do": "*edits", "undo": "many", "redo": "many", "module_after": "number", "modules": "",
    "attempt": "action", "explore": "action", "changes": "", "ask": "word *rest **more",
}
ERRORS = {
    ValueError: ["InvalidModule reason", "InvalidInputs value", "InvalidNumber value", "InvalidThings value", "InvalidView value",
                 "InvalidStep value", "InvalidEdit index", "InvalidRow value", "WrongInputs", "ParseError line word"],
    KeyError: ["UnknownName value", "UnknownPlace value"], LookupError: ["WrongPlace place"], RuntimeError: ["Broken index"],
}
DEFAULTS = {"limit": 2000, "greatest": 2, "many": 1}
WORDS = {name: file for file, names in INTERFACE.items() for name, text in names.items() if text.split()[0] == "module"}


def function_of(name):
    return getattr(importlib.import_module("clobberwalk." + WORDS[name]), name)


def outcome(function, *args, **more):
    """Tell what a call returns, or the error that it raises with its fields."""
    try:
        return ("returned", function(*args, **more))
    except Exception as error:
        return (type(error), vars(error))


class Interface(unittest.TestCase):
    def parameters(self, function):
        found = []
        for name, one in inspect.signature(function).parameters.items():
            if one.kind is inspect.Parameter.KEYWORD_ONLY and "*" not in found:
                found.append("*")
            sign = {inspect.Parameter.VAR_POSITIONAL: "*", inspect.Parameter.VAR_KEYWORD: "**"}.get(one.kind, "")
            found.append(sign + name)
            if not sign:
                self.assertEqual(one.default, DEFAULTS.get(name, inspect.Parameter.empty))
        return " ".join(found)

    def defined(self, file):
        tree = ast.parse((FOLDER / f"{file}.py").read_text(encoding="utf-8"))
        return {node.name for node in tree.body if isinstance(node, (ast.FunctionDef, ast.ClassDef))}

    def test_functions_are_defined_in_their_files(self):
        for file, names in INTERFACE.items():
            self.assertLessEqual(set(names), self.defined(file))
            for name, text in names.items():
                self.assertEqual(self.parameters(getattr(importlib.import_module("clobberwalk." + file), name)), text)
        self.assertEqual(len(WORDS), 60)

    def test_classes_are_defined_in_their_files(self):
        self.assertLessEqual({make.__name__ for make in CLASSES}, self.defined("workshop"))
        self.assertIn("Desk", self.defined("desk"))
        self.assertIn("Limits", self.defined("limits"))
        self.assertEqual(Limits.MOST_PLACES, 120)

    def test_methods(self):
        for make in CLASSES:
            shop = make(RICH)
            for name, text in METHODS.items():
                self.assertEqual(self.parameters(getattr(shop, name)), text)
            self.assertEqual(self.parameters(make), "module *inputs" if hasattr(shop, "inputs") else "module")
        self.assertEqual(self.parameters(Desk), "")
        self.assertEqual(self.parameters(Desk().say), "row")
        self.assertIsInstance(vars(Desk)["workshop"], property)
        self.assertLessEqual({"say", "__call__", "workshop", "__init__"}, set(vars(Desk)))

    def test_errors(self):
        for base, lines in ERRORS.items():
            for line in lines:
                name, *fields = line.split()
                error = getattr(errors, name)
                self.assertEqual(error.__bases__, (base,))
                values = [[field] for field in fields]
                for made in (error(*values), error(**dict(zip(fields, values)))):
                    for field, value in zip(fields, values):
                        self.assertIs(getattr(made, field), value)

    def test_each_function_with_a_module_is_tried_with_wrong_arguments(self):
        tried = {name for _, name, _ in test_arguments.ROWS}
        self.assertEqual(set(WORDS) - tried, {"parted", "show_module"})


class Ask(unittest.TestCase):
    def test_each_word_by_position_and_by_name(self):
        for make in CLASSES[:2]:
            shop = make(RICH)
            for _, name, sorts in test_arguments.ROWS:
                names = [word.lstrip("*") for word in sorts]
                right = [[one for one in rows[0].right if one != "twin" or len(sorts) == 1] for rows in sorts.values()]
                for args in itertools.islice(itertools.product(*right), 6):
                    expected = function_of(name)(RICH, *args)
                    self.assertEqual(shop.ask(name, *args), expected)
                    self.assertEqual(shop.ask(name, *args[:1], **dict(zip(names[1:], args[1:]))), expected)
                    self.assertEqual(shop.ask(word=name, **dict(zip(names, args))), expected)

    def test_parted_and_show_module(self):
        shop = Workshop(samples.SMALL)
        other = samples.replaced(samples.SMALL, (1, 0, 2, 0, 2, 0), ("num", "x", 3))
        self.assertEqual(shop.ask("parted", other), ([], ((), ("value", None)), ((), ("value", 3))))
        self.assertIsNone(shop.ask("parted", other, limit=1))
        self.assertIsNone(shop.ask("parted", greatest=0, other=samples.SMALL))
        self.assertEqual(shop.ask("show_module"), show_module(samples.SMALL))

    def test_wrong_arguments(self):
        shop = Workshop(RICH)
        for _, name, sorts in test_arguments.ROWS:
            for at, rows in enumerate(sorts.values()):
                for wrong in rows[0].wrong[:20]:
                    args = [one[0].right[0] for one in sorts.values()]
                    args[at] = wrong
                    self.assertEqual(outcome(shop.ask, name, *args), outcome(function_of(name), RICH, *args))
        self.assertEqual(outcome(shop.ask, "parted", RICH, greatest=4), (errors.InvalidNumber, {"value": 4}))

    def test_wrong_numbers_of_arguments(self):
        shop = Workshop(RICH)
        for name, more in (("facts", [1]), ("holds", ["main"]), ("parted", [RICH, 2, 2000])):
            with self.assertRaises(TypeError):
                shop.ask(name, *more)

    def test_the_present_module(self):
        shop = Workshop(RICH)
        shop.do(("insert", ("main", "start", 0), ("none", "fresh")))
        self.assertEqual(shop.ask("holds", "main", "fresh"), [("none",)])
        shop.undo()
        with self.assertRaises(errors.UnknownName):
            shop.ask("holds", "main", "fresh")
        self.assertEqual(shop.explore(lambda one: (one.do(("insert", ("main", "start", 0), ("none", "z"))), one.ask("holds", "main", "z"))[1]),
                         [("none",)])

    def test_any_other_value(self):
        names = ["module_error", "read_module", "show_line", "read_line", "Workshop", "Desk", "check_module", "is_inputs", "Run", "facts ",
                 " facts", "Facts", "modules", "text", "ask", "word", "reached_blocks", "thing_at", "Told"]
        for make in CLASSES:
            shop = make(RICH)
            for value in [*samples.STRAYS, *names, run(RICH, [1]), ("facts",), ["facts"], RICH, shop]:
                with self.assertRaises(errors.UnknownName) as caught:
                    shop.ask(value)
                self.assertIs(caught.exception.value, value)
            with self.assertRaises(errors.UnknownName):
                shop.ask("nowhere", 1, 2, three=3)

    def test_what_is_returned_is_new(self):
        shop = Workshop(RICH)
        for name, args in (("facts", ()), ("holds", ("main", "p")), ("kept", (("main", "start", 9),))):
            first = shop.ask(name, *args)
            again = copy.deepcopy(first)
            first.clear()
            self.assertEqual(shop.ask(name, *args), again)


class Edges(unittest.TestCase):
    def test_an_answer_of_the_package_is_any_value(self):
        strays = [run(RICH, [1]), Workshop(RICH), Desk(), GuardedWorkshop(RICH, [1])]
        for value in [*strays, *[(one,) for one in strays], *[[one] for one in strays], *[{"a": one} for one in strays]]:
            for function in (read_module, read_line):
                with self.assertRaises(errors.ParseError):
                    function(value)
            for make in CLASSES:
                with self.assertRaises(errors.InvalidModule):
                    make(value)
                with self.assertRaises(errors.InvalidEdit):
                    make(RICH).do(value)
                with self.assertRaises(errors.InvalidNumber):
                    make(RICH).undo(value)
            with self.assertRaises(errors.InvalidRow):
                Desk().say(value)


if __name__ == "__main__":
    unittest.main()

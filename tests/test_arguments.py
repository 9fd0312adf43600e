"""Promises 3, 4: the arguments of all functions with a parameter module, and the errors for wrong ones."""

import copy
import importlib
import inspect
import itertools
import unittest

import samples
from clobberwalk import errors
from clobberwalk.machine import run
from clobberwalk.modules import module_error
from clobberwalk.steps import steps

RICH = samples.RICH
WORDS = [thing[0] for thing in samples.EVERY_WORD] + ["go"]
PLACES = {word: ("main", "start", WORDS.index(word)) for word in WORDS}
ALL_PLACES = [*PLACES.values(), ("main", "loop", 0), ("main", "loop", 1), ("main", "both", 1), ("twin", "only", 0)]

WRONG_NAMES = [*samples.STRAYS, "nowhere", "Main", " main", ("main",), ["main"], b"main", run(RICH, [1])]
WRONG_BLOCKS = [*WRONG_NAMES, "main", "dead", ("main", "start"), PLACES["new"]]
WRONG_LOCALS = [*WRONG_NAMES, "main", "a", ("register", "main", "x")]
WRONG_PLACES = [
    *WRONG_NAMES, "main", PLACES["new"][:2], (*PLACES["new"], 0), (PLACES["new"],), list(PLACES["new"]),
    ("main", "start", 19), ("main", "start", -1), ("main", "start", True), ("main", "start", "9"),
    ("main", "start", None), ("main", "start", [9]), ("main", "dead", 0), ("main", "nowhere", 0), ("twin", "start", 0),
    ("nowhere", "start", 0), (["main"], "start", 0), ("main", {}, 0), ("start", "main", 9), ("main", "start", 10 ** 79),
]
WRONG_INPUTS = [
    *samples.STRAYS, [True], ["1"], [None], [1, 2], [[1]], [10 ** 40 + 1], [-10 ** 40 - 1], {1: 1}, (1, 1), "1", 1,
]
WRONG_LIMITS = [*[one for one in samples.STRAYS if type(one) is not int], 0, -1, 20001, 10 ** 40, "9", [9], (9,)]


class Sort:
    """A sort of argument: some right ones, and the error that wrong ones raise."""

    def __init__(self, right, wrong, error, field):
        self.right, self.wrong, self.error, self.field = right, wrong, error, field


def place_with(*words):
    right = [place for word, place in PLACES.items() if word in words]
    misfits = [place for place in ALL_PLACES if place not in right and place[1] == "start"]
    return [
        Sort(right, WRONG_PLACES, errors.UnknownPlace, "value"),
        Sort(right, misfits + ALL_PLACES[-4:-2] + ALL_PLACES[-1:], errors.WrongPlace, "place"),
    ]


NAME = [Sort(["main", "twin"], WRONG_NAMES, errors.UnknownName, "value")]
BLOCK = [Sort(["start", "loop", "both", "done"], WRONG_BLOCKS, errors.UnknownName, "value")]
LOCAL = [Sort(["x", "n", "p", "i", "s"], WRONG_LOCALS, errors.UnknownName, "value")]
PLACE = [Sort(ALL_PLACES, WRONG_PLACES, errors.UnknownPlace, "value")]
ACCESS, CALL, SITE = place_with("get", "put", "at", "set"), place_with("call", "ask"), place_with("new", "row")
VIEW = [Sort([None], [*[one for one in WRONG_PLACES if one is not None], *ALL_PLACES], errors.InvalidView, "value")]
STEP = [Sort(steps(RICH), [*WRONG_PLACES, PLACES["ask"], ("call", PLACES["call"]), ("call", list(PLACES["ask"])), ("call",),
                           ["call", PLACES["ask"]], ("unused", PLACES["num"]), ("function", "twin"), ("function", [])],
             errors.InvalidStep, "value")]
THINGS = [Sort([[], (), [("none",)], (("number",), ("fun", "twin"))],
               [*[one for one in samples.STRAYS if one not in ((), [])], ("none",), [("nothing",)], [PLACES["new"]]],
               errors.InvalidThings, "value")]
ANY = [Sort([None, [], (), "main", PLACES["new"]], [], None, None)]
INPUTS = [Sort([[1], (0,), [-10 ** 40], (10 ** 40,)], [one for one in WRONG_INPUTS if one != (1,) and one != [1]],
               errors.InvalidInputs, "value")]
LIMIT = [Sort([1, 2000, 20000], WRONG_LIMITS, errors.InvalidNumber, "value")]

# The arguments of each function behind module; a name before which a * stands may be left out.
FUNCTIONS = {
    "machine": {"run": {"inputs": INPUTS, "*limit": LIMIT}, "touched": {"inputs": INPUTS, "*limit": LIMIT}},
    "graphs": {
        "reached": {"f": NAME}, "loops": {"f": NAME}, "is_reducible": {"f": NAME},
        "dominates": {"f": NAME, "block": BLOCK, "other": BLOCK},
        "way_around": {"f": NAME, "block": BLOCK, "other": BLOCK},
        "post_dominates": {"f": NAME, "block": BLOCK, "other": BLOCK},
        "immediate_dominator": {"f": NAME, "block": BLOCK}, "frontier": {"f": NAME, "block": BLOCK},
        "depth": {"f": NAME, "block": BLOCK},
    },
    "facts": {
        "holds": {"f": NAME, "local": LOCAL}, "given_by": {"f": NAME}, "kept": {"place": SITE},
        "live": {}, "goals": {"place": CALL}, "facts": {},
    },
    "faults": {"words": {"place": PLACE}, "is_sure": {"place": PLACE}, "sorts": {"f": NAME, "local": LOCAL}},
    "calls": {
        "calls": {"f": NAME}, "callers": {"f": NAME}, "can_call": {"f": NAME}, "rings": {}, "level": {"f": NAME},
        "chain": {"f": NAME}, "is_chain": {"f": NAME, "value": ANY},
    },
    "effects": {
        "cells": {"place": ACCESS}, "reads": {"f": NAME}, "writes": {"f": NAME}, "open_reads": {"f": NAME},
        "open_writes": {"f": NAME}, "shows": {"f": NAME}, "is_calm": {"f": NAME}, "call_effects": {"place": CALL},
        "reach": {"things": THINGS},
    },
    "escape": {
        "leaves": {"place": SITE}, "leaving": {"f": NAME}, "staying": {"f": NAME}, "why_leaves": {"place": SITE},
        "is_path": {"place": SITE, "value": ANY}, "shows_staying": {"place": SITE, "value": ANY},
    },
    "views": {
        "views": {"f": NAME}, "holds_in": {"f": NAME, "local": LOCAL, "view": VIEW}, "given_in": {"f": NAME, "view": VIEW},
        "kept_split": {"place": SITE}, "goals_split": {"place": CALL},
    },
    "versions": {
        "meets": {"place": ACCESS, "other": ACCESS}, "writers": {"place": ACCESS}, "clobber": {"place": ACCESS},
        "seen": {"place": ACCESS},
    },
    "steps": {"steps": {}, "after": {"step": STEP}, "passed": {}, "is_row": {"value": ANY, "other": ANY}},
    "derivations": {
        "why_fact": {"fact": ANY}, "is_derivation": {"fact": ANY, "value": ANY}, "is_closed": {"facts": ANY, "live": ANY},
    },
}
ROWS = [(file, name, sorts) for file, rows in FUNCTIONS.items() for name, sorts in rows.items()]


def function_of(file, name):
    return getattr(importlib.import_module("clobberwalk." + file), name)


class Arguments(unittest.TestCase):
    def check_each(self, check):
        for file, name, sorts in ROWS:
            with self.subTest(f"{file}.{name}"):
                names = [word.lstrip("*") for word in sorts]
                # Of the sample only main has the blocks and registers that are right.
                right = [[one for one in rows[0].right if one != "twin" or len(sorts) == 1] for rows in sorts.values()]
                check(function_of(file, name), names, right, list(sorts.values()))

    def raises(self, sort, wrong, function, *args, **more):
        with self.assertRaises(sort.error) as caught:
            function(*args, **more)
        self.assertIs(type(caught.exception), sort.error)
        self.assertIs(getattr(caught.exception, sort.field), wrong)

    def test_the_interface(self):
        def check(function, names, _, __):
            self.assertEqual(list(inspect.signature(function).parameters), ["module", *names])
        self.check_each(check)
        for file, name, sorts in ROWS:
            self.assertEqual(function_of(file, name).__module__, "clobberwalk." + file)
            for word in sorts:
                default = inspect.signature(function_of(file, name)).parameters[word.lstrip("*")].default
                self.assertEqual(default, 2000 if word == "*limit" else inspect.Parameter.empty)

    def test_invalid_module_ahead_of_all(self):
        values = [*samples.STRAYS, RICH[0], [*RICH], (RICH[0], RICH[1], ()), (RICH,), samples.one_block(("show", "z"))]

        def check(function, names, right, _):
            for value in values:
                for args in ([rows[0] for rows in right], [{} for _ in right]):
                    with self.assertRaises(errors.InvalidModule) as caught:
                        function(value, *args)
                    self.assertEqual(caught.exception.reason, module_error(value))
        self.check_each(check)

    def test_each_wrong_argument_with_the_very_value(self):
        def check(function, names, right, sorts):
            good = [rows[0] for rows in right]
            for at, rows in enumerate(sorts):
                for sort in rows:
                    for wrong in sort.wrong:
                        args = [*good[:at], wrong, *good[at + 1:]]
                        self.raises(sort, wrong, function, RICH, *args)
                        self.raises(sort, wrong, function, module=RICH, **dict(zip(names, args)))
        self.check_each(check)

    def test_the_first_wrong_one_from_left_to_right(self):
        def check(function, names, right, sorts):
            for at, later in itertools.combinations(range(len(sorts)), 2):
                if not sorts[at][0].wrong:
                    continue
                wrong = ["nowhere", "limit"]
                args = [rows[0] for rows in right]
                args[at], args[later] = wrong
                self.raises(sorts[at][0], wrong[0], function, RICH, *args)
        self.check_each(check)

    def test_by_position_and_by_name_with_equal_results(self):
        def check(function, names, right, _):
            for args in itertools.product(*right):
                first = function(RICH, *args)
                self.assertEqual(function(module=RICH, **dict(zip(names, args))), first)
                self.assertEqual(function(RICH, *args[:1], **dict(zip(names[1:], args[1:]))), first)
                self.assertEqual(function(copy.deepcopy(RICH), *copy.deepcopy(args)), first)
        self.check_each(check)

    def test_lists_and_dicts_are_new(self):
        def check(function, names, right, _):
            for args in itertools.product(*right):
                first = function(RICH, *args)
                again = copy.deepcopy(first)
                if isinstance(first, dict):
                    for part in first.values():
                        part.append("more")
                    first["more"] = []
                for part in first if isinstance(first, tuple) else [first]:
                    if isinstance(part, list):
                        part.append("more")
                self.assertEqual(function(RICH, *args), again)
        self.check_each(check)

    def test_arguments_do_not_change(self):
        def check(function, names, right, _):
            for args in itertools.product(*right):
                before = copy.deepcopy(args)
                function(RICH, *args)
                self.assertEqual(args, before)
        self.check_each(check)


if __name__ == "__main__":
    unittest.main()

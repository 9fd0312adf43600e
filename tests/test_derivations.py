"""Promise 17: derivations, of facts of the module and of none, and what is closed."""

import copy
import itertools
import random
import unittest

import drawn
import naive
import samples
from clobberwalk.derivations import is_closed, is_derivation, why_fact
from clobberwalk.facts import facts, live
from clobberwalk.machine import run
from written import module

NUMBER, NONE = ("number",), ("none",)

# Each rule is needed for some fact of this module.
EVERY_RULE = module("""
kind box key left
function main x
block a
new p box
put p key x
get y p key
row q x
fun f one
set q x f
at g q x
call r one p y
ask s g r x
go b s
block b t
give t
function one u v
block c
give u
""")
A, B, C = "a", "b", "c"


def register(name, f="main"):
    return ("register", f, name)


def lives(name):
    return ("live", name)


BOX, ROW, ONE = ("site", ("main", A, 0)), ("site", ("main", A, 3)), ("fun", "one")

# Entries (rule, place, conclusion, what is needed besides that the place's function is live).
ENTRIES = {
    "start live": ("start", None, lives("main"), []),
    "start": ("start", None, (register("x"), NUMBER), []),
    "make new": ("make", ("main", A, 0), (register("p"), BOX), []),
    "make field": ("make", ("main", A, 0), (("field", BOX[1], "left"), NONE), []),
    "make row": ("make", ("main", A, 3), (register("q"), ROW), []),
    "make element": ("make", ("main", A, 3), (("element", ROW[1]), NONE), []),
    "make fun": ("make", ("main", A, 4), (register("f"), ONE), []),
    "put": ("put", ("main", A, 1), (("field", BOX[1], "key"), NUMBER), [(register("p"), BOX), (register("x"), NUMBER)]),
    "get": ("get", ("main", A, 2), (register("y"), NUMBER),
            [(register("p"), BOX), (("field", BOX[1], "key"), NUMBER)]),
    "set": ("put", ("main", A, 5), (("element", ROW[1]), ONE), [(register("q"), ROW), (register("f"), ONE)]),
    "at": ("get", ("main", A, 6), (register("g"), ONE), [(register("q"), ROW), (("element", ROW[1]), ONE)]),
    "call live": ("call", ("main", A, 7), lives("one"), []),
    "call arg": ("call", ("main", A, 7), (register("u", "one"), BOX), [(register("p"), BOX)]),
    "call arg too": ("call", ("main", A, 7), (register("v", "one"), NUMBER), [(register("y"), NUMBER)]),
    "call gives": ("call", ("main", A, 7), (register("r"), BOX), [(("given", "one"), BOX)]),
    "ask live": ("ask", ("main", A, 8), lives("one"), [(register("g"), ONE)]),
    "ask arg": ("ask", ("main", A, 8), (register("u", "one"), BOX), [(register("g"), ONE), (register("r"), BOX)]),
    "ask gives": ("ask", ("main", A, 8), (register("s"), BOX), [(register("g"), ONE), (("given", "one"), BOX)]),
    "pass": ("pass", ("main", A, 9), (register("t"), BOX), [(register("s"), BOX)]),
    "give": ("give", ("main", B, 0), (("given", "main"), BOX), [(register("t"), BOX)]),
    "give one": ("give", ("one", C, 0), (("given", "one"), BOX), [(register("u", "one"), BOX)]),
}
# An order in which each entry stands behind what it needs.
ORDER = [
    "start live", "start", "make new", "make field", "make row", "make element", "make fun", "put", "get", "set", "at",
    "call live", "call arg", "call arg too", "give one", "call gives", "ask live", "ask arg", "ask gives", "pass", "give",
]


def needs_of(name):
    rule, place, _, needs = ENTRIES[name]
    return ([] if place is None else [lives(place[0])]) + needs


def derivation(*names):
    """List the entries with these names, with the numbers that they need."""
    conclusions, entries = [], []
    for name in names:
        rule, place, conclusion, _ = ENTRIES[name]
        entries.append((rule, place, conclusion, tuple([conclusions.index(need) for need in needs_of(name)])))
        conclusions.append(conclusion)
    return entries


class WhyFact(unittest.TestCase):
    def check(self, value):
        for fact in facts(value):
            found = why_fact(value, fact)
            self.assertIsInstance(found, list)
            self.assertTrue(naive.accepts(value, fact, found), found)
            self.assertIs(is_derivation(value, fact, found), True)
            for entry in found:
                self.assertEqual([type(part) for part in (entry, entry[0], entry[2], entry[3])], [tuple, str, tuple, tuple])

    def test_every_fact_of_the_samples(self):
        for value in (samples.EXAMPLE, samples.RICH, samples.SMALL, EVERY_RULE):
            self.check(value)

    def test_every_fact_of_drawn_modules(self):
        source = random.Random(17)
        for _ in range(60):
            self.check(drawn.draw_module(source, 4, 4, 8))

    def test_none_for_what_is_no_fact(self):
        told = dict.fromkeys(facts(samples.RICH))
        world = naive.World(samples.RICH)
        many = 0
        for fact in itertools.product(world.holders(), world.all_things()):
            if fact not in told:
                self.assertIsNone(why_fact(samples.RICH, fact))
                many += 1
        self.assertGreater(many, 100)

    def test_none_for_any_other_value(self):
        fact = (register("p"), BOX)
        for value in (*samples.STRAYS, ("live", "main"), list(fact), (list(fact[0]), BOX), (fact[0], list(BOX)),
                      (*fact, ()), fact[:1], (BOX, fact[0]), (register("p"), ("site", ["main", A, 0])),
                      (register("p"), ("site", ("main", A, False))), (["register"], {}), ({}, []),
                      (register(["p"]), BOX), (("given", ["main"]), BOX), (("field", BOX, "key"), NUMBER),
                      (("element", BOX[1]), NONE), (("field", ROW[1], None), ONE), (register("p"), ("fun", ["one"])),
                      (register("p"), ("fun",)), (register("x"), ("number", 1)), (("register", "main"), NUMBER),
                      (("given", "main", "x"), BOX), (("element", ROW[1], None), NONE), run(samples.EXAMPLE, [1]),
                      (("nothing", "main"), BOX), (("nothing", ROW[1]), ONE), (("nothing", "main", "x"), NUMBER),
                      (("nothing", BOX[1], "key"), NUMBER), (("register", "nowhere", "x"), NUMBER), (("given", "z"), BOX),
                      (("register", ["main"], "x"), NUMBER), (("register", BOX[1], "key"), NUMBER), (("given", ROW[1]), ONE),
                      (("field", "main", "x"), NUMBER), (("element", "main"), BOX), (("element", ("main", A, 1)), NONE),
                      (("field", ("main", A, 1), "key"), NUMBER), (("register", "main", "x", "y"), NUMBER),
                      (("given", "main", "x", "y"), BOX), (("field", BOX[1], "key", "left"), NUMBER),
                      (("field", BOX[1], ["key"]), NUMBER), (("register",), NUMBER), ((), NUMBER), (register("x"), ()),
                      (register("x"), ("number", "number")), (register("p"), ("nothing", BOX[1])),
                      (register("f"), ("nothing", "one")), (register("p"), (*BOX, None)), (register("f"), ("fun", {}))):
            self.assertIsNone(why_fact(EVERY_RULE, value), value)
            self.assertIs(is_derivation(EVERY_RULE, value, derivation(*ORDER)), False)
            self.assertIs(is_closed(EVERY_RULE, [*facts(EVERY_RULE), value], ["main", "one"]), False)


class IsDerivation(unittest.TestCase):
    def check(self, expected, value, fact=None):
        self.assertIs(is_derivation(EVERY_RULE, value[-1][2] if fact is None else fact, value), expected)

    def test_every_rule(self):
        for at, name in enumerate(ORDER):
            value = derivation(*ORDER[:at + 1])
            self.check(not name.endswith("live"), value)
            self.check(not name.endswith("live"), tuple(value))

    def test_the_last_conclusion_is_the_fact(self):
        value = derivation(*ORDER)
        for name in ORDER[:-1]:
            self.check(False, value, ENTRIES[name][2])
        self.check(False, value, (register("t"), NUMBER))

    def test_when_a_needed_number_lacks(self):
        for at, name in enumerate(ORDER):
            value = derivation(*ORDER[:at + 1])
            rule, place, conclusion, numbers = value[-1]
            for lacking in range(len(numbers)):
                fewer = numbers[:lacking] + numbers[lacking + 1:]
                self.check(False, [*value[:-1], (rule, place, conclusion, fewer)])
                # Another entry in its place does not help, but what is superfluous does no harm.
                self.check(False, [*value[:-1], (rule, place, conclusion, (*fewer, *fewer))])

    def test_superfluous_and_repeated_numbers_and_entries(self):
        for at, name in enumerate(ORDER):
            if not name.endswith("live"):
                value = derivation(*ORDER[:at + 1])
                rule, place, conclusion, numbers = value[-1]
                for more in ((*numbers, *numbers), tuple(reversed(numbers)), tuple(range(at)), tuple(range(at))[::-1]):
                    self.check(True, [*value[:-1], (rule, place, conclusion, more)])
                self.check(True, [*value, value[-1]])
                self.check(True, [*value[:-1], *value])

    def test_another_place(self):
        places = [place for place, _ in naive.places_of(EVERY_RULE)] + [None]
        for at, name in enumerate(ORDER):
            if name.endswith("live"):
                continue
            value = derivation(*ORDER[:at + 1])
            rule, place, conclusion, numbers = value[-1]
            for other in places:
                self.check(other == place, [*value[:-1], (rule, other, conclusion, numbers)])
            for other in (*samples.STRAYS, ("main", A, 10), ("main", A, False), ("main", C, 0), ["main", A, 0], ("main",)):
                self.check(other is None and place is None, [*value[:-1], (rule, other, conclusion, numbers)])

    def test_another_rule(self):
        rules = ["start", "make", "pass", "put", "get", "call", "ask", "give"]
        for at, name in enumerate(ORDER):
            if not name.endswith("live"):
                value = derivation(*ORDER[:at + 1])
                rule, place, conclusion, numbers = value[-1]
                for other in (*rules, "set", "at", "new", "go", "live", *samples.STRAYS):
                    self.check(other == rule, [*value[:-1], (other, place, conclusion, numbers)])

    def test_another_conclusion(self):
        world = naive.World(EVERY_RULE)
        told = list(itertools.product(world.holders(), world.all_things()))
        for at, name in enumerate(ORDER):
            value = derivation(*ORDER[:at + 1])
            rule, place, conclusion, numbers = value[-1]
            # The entry may make more than one thing, so the second answer decides.
            for other in (*told, lives("one"), lives("main")):
                changed = [*value[:-1], (rule, place, other, numbers)]
                expected = other[0] != "live" and naive.accepts(EVERY_RULE, other, changed)
                self.check(expected, changed)

    def test_numbers_that_are_none(self):
        for wrong in (*samples.STRAYS, [0], [], 0, (1, 2), (-1,), (2,), (True,), (False,), (0.0,), ("0",), (None,), (0, 2)):
            if wrong != ():
                value = derivation("start live", "make new")
                changed = [value[0], (*value[1][:3], wrong)]
                self.check(wrong == (0,) and type(wrong[0]) is int, changed)

    def test_bools_in_the_place_of_integers(self):
        value = derivation("start live", "start", "make new", "put")
        self.check(True, value)
        rule, place, conclusion, numbers = value[3]
        for changed in (
            (rule, ("main", A, True), conclusion, numbers),
            (rule, place, (("field", ("main", A, False), "key"), NUMBER), numbers),
            (rule, place, conclusion, (False, 2, True)),
        ):
            self.check(False, [*value[:3], changed])
            self.check(False, [*value[:3], changed], conclusion)
        self.check(False, value, (("field", ("main", A, False), "key"), NUMBER))

    def test_a_conclusion_that_is_not_last_counts(self):
        value = derivation(*ORDER)
        value[3] = ("make", ("main", A, 0), (("field", BOX[1], "left"), NUMBER), (0,))
        self.check(False, value)
        value[3] = None
        self.check(False, value)

    def test_numbers_of_later_entries_and_of_its_own(self):
        value = derivation("start live", "start", "make new", "put", "get")
        self.check(True, value)
        self.check(False, [value[0], value[1], value[2], value[4], value[3]])
        self.check(False, [*value[:4], (*value[4][:3], (0, 2, 4))])

    def test_any_values(self):
        fact = (register("x"), NUMBER)
        good = ("start", None, fact, ())
        self.check(True, [good], fact)
        for value in (*samples.STRAYS, good, [list(good)], [good[:3]], [(*good, ())], {0: good}, [good, None], [[]],
                      [("start", None, list(fact), ())], [("start", None, fact, [])], [("start", (), fact, ())],
                      [(["start"], None, fact, ())], [("start", [None], fact, ())], [("start", None, {}, ())],
                      [("start", None, (fact,), ())], [("start", None, ("live",), ())],
                      [("start", None, ("live", ["main"]), ()), good], [("start", None, ["live", "main"], ()), good],
                      [("start", None, ("live", "main", ""), ()), good], [("start", None, {"live": "main"}, ()), good],
                      run(samples.EXAMPLE, [1]), [run(samples.EXAMPLE, [1])]):
            self.assertIs(is_derivation(EVERY_RULE, fact, value), False)
            self.assertIs(is_derivation(EVERY_RULE, value, [good]), False)
            self.assertIs(is_derivation(EVERY_RULE, value, value), False)

    def test_main_alone_is_live_at_the_start(self):
        self.check(False, [("start", None, (register("u", "one"), NUMBER), ())])
        self.check(False, [("start", None, lives("one"), ()), ("start", None, (register("x"), NUMBER), ())])

    def test_a_block_that_is_not_reached(self):
        value = module("function main\nblock a\nnone o\ngive o\nblock b\nnone p\ngo c p\nblock c q\ngive q")
        live_main = ("start", None, lives("main"), ())
        entry = ("make", ("main", "b", 0), (register("p"), NONE), (0,))
        self.assertIs(is_derivation(value, entry[2], [live_main, entry]), False)
        self.assertIs(is_derivation(value, (register("o"), NONE), [
            live_main, ("make", ("main", "a", 0), (register("o"), NONE), (0,)),
        ]), True)

    def test_a_function_that_is_not_live(self):
        value = module("function main\nblock a\nnone o\ngive o\nfunction other\nblock a\nnone o\ngive o")
        entry = ("make", ("other", "a", 0), (register("o", "other"), NONE), (0,))
        self.assertIs(is_derivation(value, entry[2], [("start", None, lives("main"), ()), entry]), False)


class IsClosed(unittest.TestCase):
    def check(self, expected, told, names, value=EVERY_RULE):
        self.assertIs(is_closed(value, told, names), expected)

    def test_the_facts_and_the_live_functions(self):
        source = random.Random(171)
        for value in (samples.EXAMPLE, samples.RICH, EVERY_RULE, *[drawn.draw_module(source) for _ in range(40)]):
            told, names = facts(value), live(value)
            self.check(True, told, names, value)
            self.check(True, tuple(told), tuple(names), value)
            self.check(True, told[::-1] + told, names[::-1] + names, value)

    def test_one_less(self):
        for value in (samples.EXAMPLE, samples.RICH, EVERY_RULE):
            told, names = facts(value), live(value)
            for at in range(len(told)):
                self.check(False, told[:at] + told[at + 1:], names, value)
            for at in range(len(names)):
                self.check(False, told, names[:at] + names[at + 1:], value)

    def test_one_more(self):
        """What is more may make more; the second answer decides whether it does."""
        for value in (samples.EXAMPLE, samples.RICH, EVERY_RULE):
            told, names, world = facts(value), live(value), naive.World(value)
            answers = []
            for fact in itertools.product(world.holders(), world.all_things()):
                more = {*told, fact}
                made = {made for _, _, made in naive.inferences(world, more, set(names))}
                expected = made <= more | {lives(name) for name in names}
                self.check(expected, [*told, fact], names, value)
                answers.append(expected)
            self.assertIn(True, answers)
            self.assertIn(False, answers)

    def test_all_facts_and_functions(self):
        for value in (samples.EXAMPLE, samples.RICH, EVERY_RULE):
            world = naive.World(value)
            told = list(itertools.product(world.holders(), world.all_things()))
            self.check(True, told, list(world.functions), value)
            self.check(False, told, [], value)
            self.check(False, [], list(world.functions), value)

    def test_a_function_more(self):
        value = module("function main\nblock a\nnone o\ngive o\nfunction other\nblock a\nnone p\ngive p\nblock b\nnone q\n"
                       "give q")
        told = facts(value)
        self.check(True, told, ["main"], value)
        self.check(False, told, ["main", "other"], value)
        more = [(register("p", "other"), NONE), (("given", "other"), NONE)]
        self.check(True, told + more, ["main", "other"], value)
        self.check(True, told + more, ["main"], value)
        self.check(False, told + more[:1], ["main", "other"], value)
        # A register of a block that is not reached may hold anything, and needs nothing.
        self.check(True, [*told, (register("q", "other"), ("fun", "other"))], ["main"], value)

    def test_entries_that_are_none(self):
        told, names = facts(EVERY_RULE), live(EVERY_RULE)
        for wrong in (*samples.STRAYS, "nowhere", list(told[0]), (register("z"), NUMBER), (register("x"), ("fun", "z")),
                      (register("x"), ("site", ("main", A, 1))), (register("x"), ("site", ("main", A, False))),
                      (("field", BOX[1], "right"), NONE), (("element", BOX[1]), NONE), (("given", "z"), NONE), lives("main"),
                      (("field", ROW[1], "key"), NONE), run(samples.EXAMPLE, [1])):
            self.check(False, [*told, wrong], names)
            self.check(False, [wrong, *told], names)
            self.check(False, told, [*names, wrong])

    def test_sites_of_blocks_that_are_not_reached(self):
        value = module("kind unit\nfunction main\nblock a\nnone o\ngive o\nblock b\nnew p unit\ngive p")
        self.check(False, [*facts(value), (register("o"), ("site", ("main", "b", 0)))], ["main"], value)
        self.check(True, [*facts(value), (register("p"), ("fun", "main"))], ["main"], value)

    def test_any_values(self):
        told, names = facts(EVERY_RULE), live(EVERY_RULE)
        for value in (*samples.STRAYS, None, dict.fromkeys(told), "main", run(samples.EXAMPLE, [1])):
            self.check(False, value, names)
            self.check(False, told, value)
            self.check(False, value, value)

    def test_nothing_changes(self):
        told, names = facts(EVERY_RULE), live(EVERY_RULE)
        before = copy.deepcopy((told, names))
        self.check(True, told, names)
        self.assertEqual((told, names), before)


if __name__ == "__main__":
    unittest.main()

"""Promises 22, 23, 24: who calls whom, rings, levels, chains."""

import random
import unittest

import drawn
import samples
from clobberwalk.calls import callers, calls, can_call, chain, is_chain, level, rings
from clobberwalk.facts import live
from clobberwalk.machine import run
from naive_told import Told
from written import module


def network(text):
    """Make a module of functions that call others: "main a b, a c" ; a name with ? is asked for."""
    functions = {}
    for row in text.split(","):
        name, *others = row.split()
        lines = [f"function {name}", "block z"]
        for at, other in enumerate(others):
            local = "r" + "abcdefgh"[at]
            if other.endswith("?"):
                lines.extend([f"fun {local}f {other[:-1]}", f"ask {local} {local}f"])
            else:
                lines.append(f"call {local} {other}")
        functions[name] = "\n".join([*lines, "none o", "give o"])
    return module("\n".join(functions.values()))


# Two rings, of which one can call the other, with functions above, between and below.
RINGS = network("main a h, a b, b a c, c d, d c f, f, h f, i h main")


class Graph(unittest.TestCase):
    def check(self, value, name, called, calling, reachable):
        self.assertEqual(calls(value, name), called.split())
        self.assertEqual(callers(value, name), calling.split())
        self.assertEqual(can_call(value, name), reachable.split())

    def test_by_name_and_by_value(self):
        for value in (network("main b a, a c, b c, c"), network("main b? a?, a c?, b c?, c")):
            self.check(value, "main", "a b", "", "a b c")
            self.check(value, "a", "c", "main", "c")
            self.check(value, "b", "c", "main", "c")
            self.check(value, "c", "", "a b", "")

    def test_a_function_that_is_called_twice_is_told_once(self):
        self.check(network("main a a a?, a"), "main", "a", "", "a")
        self.check(network("main a a a?, a"), "a", "", "main", "")

    def test_a_function_that_calls_itself(self):
        self.check(network("main a, a a"), "a", "a", "a main", "a")
        self.check(network("main main?"), "main", "main", "main", "main")

    def test_rings(self):
        self.check(RINGS, "main", "a h", "", "a b c d f h")
        self.check(RINGS, "a", "b", "b main", "a b c d f")
        self.check(RINGS, "b", "a c", "a", "a b c d f")
        self.check(RINGS, "d", "c f", "c", "c d f")
        self.check(RINGS, "f", "", "d h", "")

    def test_functions_that_are_not_live(self):
        self.check(RINGS, "i", "", "", "")
        # A call in a function that is not live is none.
        self.check(RINGS, "h", "f", "main", "f")
        value = network("main, a b a, b a")
        for name in ("a", "b"):
            self.check(value, name, "", "", "")

    def test_calls_in_blocks_that_are_not_reached(self):
        value = module("function a\nblock z\nnone o\ngive o\nfunction main\nblock z\nnone o\ngive o\nblock y\ncall r a\n"
                       "fun f a\nask s f\ngive r")
        self.check(value, "main", "", "", "")
        self.check(value, "a", "", "", "")
        self.assertEqual((level(value, "a"), chain(value, "a"), rings(value)), (None, None, []))

    def test_an_ask_of_several_functions(self):
        value = module("""
function a
block z
none o
give o
function b
block z
none o
give o
function c x
block z
give x
function main x
block z
fun f a
fun g b
fun h c
if x y f / x
block y k
ask r k
give r
block x
if x y g / y h
""")
        self.check(value, "main", "a b", "", "a b")
        self.check(value, "c", "", "", "")

    def test_a_function_that_is_only_named(self):
        value = module("function a\nblock z\nnone o\ngive o\nfunction main\nblock z\nfun f a\ngive f")
        self.check(value, "main", "", "", "")


class Rings(unittest.TestCase):
    def check(self, text, expected):
        self.assertEqual(rings(network(text)), expected)

    def test_of_one_and_of_several_functions(self):
        self.check("main", [])
        self.check("main a, a b, b", [])
        self.check("main main", [("main",)])
        self.check("main a, a a", [("a",)])
        self.check("main a b, a main, b b", [("a", "main"), ("b",)])
        self.check("main z, z y, y x, x z, a", [("x", "y", "z")])
        self.check("main c?, c b?, b a?, a c?", [("a", "b", "c")])

    def test_ascending(self):
        self.assertEqual(rings(RINGS), [("a", "b"), ("c", "d")])
        self.check("main z n, z y, y z, n m o, m n, o o", [("m", "n"), ("o",), ("y", "z")])

    def test_not_among_functions_that_are_not_live(self):
        self.check("main, a b, b a, c c", [])


class Levels(unittest.TestCase):
    def check(self, value, text):
        for word in text.split():
            name, number = word.split(":")
            self.assertEqual(level(value, name), None if number == "-" else int(number), name)

    def test_without_rings(self):
        self.check(network("main a b, a c, b, c"), "main:2 a:1 b:0 c:0")
        self.check(network("main a c, a b, b c, c"), "main:3 a:2 b:1 c:0")
        self.check(network("main"), "main:0")

    def test_with_rings(self):
        self.check(RINGS, "f:0 c:1 d:1 a:2 b:2 h:1 main:3 i:-")
        self.check(network("main main a, a"), "main:1 a:0")
        self.check(network("main a, a main"), "main:0 a:0")

    def test_functions_that_are_not_live(self):
        self.check(network("main, a b, b"), "main:0 a:- b:-")


class Chains(unittest.TestCase):
    def test_shortest(self):
        value = network("main a d, a b, b c, c, d c?")
        self.assertEqual(chain(value, "main"), [])
        self.assertEqual(chain(value, "a"), [("main", "z", 0)])
        self.assertEqual(chain(value, "b"), [("main", "z", 0), ("a", "z", 0)])
        self.assertEqual(chain(value, "c"), [("main", "z", 1), ("d", "z", 1)])

    def test_main_that_is_called(self):
        self.assertEqual(chain(network("main main"), "main"), [])

    def test_none_if_the_function_is_not_live(self):
        self.assertIsNone(chain(RINGS, "i"))
        self.assertIsNone(chain(network("main, a a"), "a"))


class IsChain(unittest.TestCase):
    VALUE = network("main a d, a b a, b c main, c, d c?, e c")
    MAIN = [("main", "z", 0), ("main", "z", 1)]
    A = [("a", "z", 0), ("a", "z", 1)]
    B = [("b", "z", 0), ("b", "z", 1)]

    def check(self, expected, name, value):
        self.assertIs(is_chain(self.VALUE, name, value), expected)

    def test_chains(self):
        for name, value in (
            ("a", [self.MAIN[0]]), ("d", [self.MAIN[1]]), ("b", [self.MAIN[0], self.A[0]]),
            ("a", [self.MAIN[0], self.A[1]]), ("b", [self.MAIN[0], self.A[1], self.A[1], self.A[0]]),
            ("c", [self.MAIN[0], self.A[0], self.B[0]]), ("c", [self.MAIN[1], ("d", "z", 1)]),
            ("main", [self.MAIN[0], self.A[0], self.B[1]]),
            ("d", [self.MAIN[0], self.A[0], self.B[1], self.MAIN[1]]),
        ):
            self.check(True, name, value)
            self.check(True, name, tuple(value))
            for other in ("main", "a", "b", "c", "d", "e"):
                self.check(other == name, other, value)

    def test_the_empty_list(self):
        for empty in ([], ()):
            self.check(True, "main", empty)
            for name in ("a", "b", "c", "d", "e"):
                self.check(False, name, empty)

    def test_lists_that_are_none(self):
        for name, value in (
            ("b", [self.A[0]]), ("b", [self.MAIN[1], self.A[0]]), ("b", [self.A[0], self.MAIN[0]]),
            ("a", [self.MAIN[0], self.MAIN[0]]), ("c", [("e", "z", 0)]), ("c", [self.MAIN[1], ("d", "z", 0)]),
            ("c", [self.MAIN[1], ("d", "z", 2)]), ("a", [("main", "z", 2)]), ("a", [("main", "y", 0)]),
            ("a", [("main", "z", -2)]), ("a", [("main", "z", 9)]), ("a", [("main", "z", False)]), ("d", [("main", "z", True)]),
        ):
            self.check(False, name, value)

    def test_any_values(self):
        good = self.MAIN[0]
        for value in (*samples.STRAYS, good, [list(good)], [[good]], [good[:2]], [(*good, 0)], {good: 0}, "main", [None],
                      [([], "z", 0)], [("main", {}, 0)], [("main", "z", [])], [good, None], run(samples.EXAMPLE, [1]),
                      [run(samples.EXAMPLE, [1])]):
            if value not in ((), []):
                self.check(False, "a", value)
                self.check(False, "main", value)

    def test_blocks_that_are_not_reached(self):
        value = module("function a\nblock z\nnone o\ngive o\nfunction main\nblock z\ncall r a\ngive r\nblock y\ncall s a\n"
                       "give s")
        self.assertIs(is_chain(value, "a", [("main", "z", 0)]), True)
        self.assertIs(is_chain(value, "a", [("main", "y", 0)]), False)


class SecondAnswer(unittest.TestCase):
    def test_drawn_modules(self):
        source = random.Random(23)
        levels, lengths, many = set(), set(), set()
        for _ in range(200):
            value = drawn.draw_module(source, source.randint(2, 7), 2, 6)
            told = Told(value)
            names = list(told.world.functions)
            self.assertEqual(rings(value), told.rings())
            many.update([len(ring) for ring in told.rings()])
            for name in names:
                self.assertEqual(calls(value, name), sorted(told.called(name)))
                self.assertEqual(callers(value, name), [other for other in names if name in told.called(other)])
                self.assertEqual(can_call(value, name), sorted(told.can_call(name)))
                self.assertEqual(level(value, name), told.level(name))
                levels.add(told.level(name))
                found = chain(value, name)
                self.assertEqual(found is None, name not in live(value))
                if found is not None:
                    self.assertEqual(len(found), told.shortest(name))
                    self.assertIs(is_chain(value, name, found), True)
                    lengths.add(len(found))
        self.assertGreater(min(len(levels), len(lengths)), 3)
        self.assertIn(2, many)

    def test_any_lists_of_places(self):
        source = random.Random(24)
        answers = []
        for _ in range(150):
            value = drawn.draw_module(source, 4, 2, 6)
            told = Told(value)
            for _ in range(20):
                places = [source.choice([*told.calls, told.world.places[0][0]]) for _ in range(source.randint(0, 3))]
                name = source.choice(list(told.world.functions))
                goals = {"main"}
                for place in places:
                    goals = told.calls.get(place, set()) if place[0] in goals else set()
                self.assertIs(is_chain(value, name, places), name in goals)
                answers.append(name in goals)
        self.assertGreater(answers.count(True), 100)


if __name__ == "__main__":
    unittest.main()

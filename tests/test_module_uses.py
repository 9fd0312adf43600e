"""Promises 7, 12, 13: the reason use, against a walk over all ways."""

import random
import unittest

import samples
from clobberwalk.modules import module_error
from samples import one_block, one_function

DEFINES = ("num", "r", 1)
USES = ("show", "r")
GIVE = ("give", "x")


def fork(first, second):
    """Make an end that leads to one of two blocks without parameters."""
    return ("if", "x", first, (), second, ())


def go(name):
    """Make an end that leads to a block without parameters."""
    return ("go", name, ())


class Uses(unittest.TestCase):
    def check(self, reason, value):
        with self.subTest(value):
            self.assertEqual(module_error(value), reason)

    def check_blocks(self, reason, *blocks):
        self.check(reason, one_function(*blocks, parameters=("x",)))

    def test_ahead_of_the_definition_and_behind_it(self):
        self.check(None, one_block(DEFINES, USES, USES))
        self.check(("use", 0, 0, 0, "r"), one_block(USES, DEFINES))
        self.check(("use", 0, 0, 1, "r"), one_block(("show", "x"), USES, DEFINES, USES))
        self.check(("use", 0, 0, 0, "r"), one_block(("add", "r", "x", "r")))
        self.check(("use", 0, 0, 0, "r"), one_block(("ask", "r", "r", ())))
        self.check(None, one_block(DEFINES, end=("give", "r")))
        self.check(("use", 0, 0, 1, "s"), one_block(DEFINES, end=("give", "s")))

    def test_a_register_that_is_nowhere_defined(self):
        self.check(("use", 0, 0, 0, "r"), one_block(USES))
        self.check(("use", 0, 0, 0, "z"), one_block(end=("give", "z")))

    def test_a_register_of_another_function(self):
        first = ("abc", ("x",), (("a", (), (DEFINES,), GIVE),))
        second = ("main", ("x",), (("a", (), (USES,), GIVE),))
        self.check(("use", 1, 0, 0, "r"), ((), (first, second)))

    def test_each_used_register_of_each_word(self):
        for thing, used in (
            (("add", "r", "p", "q"), "pq"), (("sub", "r", "p", "q"), "pq"), (("mul", "r", "p", "q"), "pq"),
            (("less", "r", "p", "q"), "pq"), (("not", "r", "p"), "p"), (("same", "r", "p", "q"), "pq"),
            (("row", "r", "p"), "p"), (("get", "r", "p", "left"), "p"), (("put", "p", "left", "q"), "pq"),
            (("at", "r", "p", "q"), "pq"), (("set", "p", "q", "o"), "pqo"), (("call", "r", "main", ("p", "q")), "pq"),
            (("ask", "r", "p", ("q", "o")), "pqo"), (("show", "p"), "p"), (("num", "r", 1), ""), (("none", "r"), ""),
            (("fun", "r", "main"), ""), (("new", "r", "unit"), ""),
        ):
            for at, local in enumerate(used):
                before = [("none", name) for name in used[:at]]
                self.check(("use", 0, 0, at, local), one_block(*before, thing))
                before = [("none", name) for name in used if name != local]
                self.check(("use", 0, 0, len(used) - 1, local), one_block(*before, thing))
            self.check(None, one_block(*[("none", name) for name in used], thing))

    def test_each_used_register_of_each_end(self):
        blocks = (("b", (), (), GIVE), ("c", ("d", "e"), (), GIVE))
        for end, used in (
            (("give", "p"), "p"),
            (("go", "c", ("p", "q")), "pq"),
            (("if", "p", "b", (), "b", ()), "p"),
            (("if", "p", "c", ("q", "o"), "c", ("m", "n")), "pqomn"),
        ):
            for at, local in enumerate(used):
                before = tuple([("none", name) for name in used if name != local])
                self.check_blocks(("use", 0, 0, len(used) - 1, local), ("a", (), before, end), *blocks)
                before = tuple([("none", name) for name in used[:at]])
                self.check_blocks(("use", 0, 0, at, local), ("a", (), before, end), *blocks)

    def test_in_a_block_that_is_not_reached(self):
        self.check_blocks(None, ("a", (), (), GIVE), ("b", (), (USES,), ("give", "z")))
        self.check_blocks(None, ("a", (), (), GIVE), ("b", (), (USES,), go("c")), ("c", (), (), fork("b", "c")))

    def test_a_definition_in_a_block_that_is_not_reached(self):
        dead = ("b", (), (DEFINES,), go("c"))
        self.check_blocks(("use", 0, 2, 0, "r"), ("a", (), (), go("c")), dead, ("c", (), (USES,), GIVE))

    def test_an_edge_from_a_block_that_is_not_reached_is_no_way(self):
        dead = ("b", (), (), go("c"))
        self.check_blocks(None, ("a", (), (DEFINES,), go("c")), dead, ("c", (), (USES,), GIVE))

    def test_on_the_arms_of_an_if(self):
        start = ("a", (), (), fork("b", "c"))
        left, right = ("b", (), (DEFINES,), go("d")), ("c", (), (), go("d"))
        self.check_blocks(("use", 0, 3, 0, "r"), start, left, right, ("d", (), (USES,), GIVE))
        self.check_blocks(("use", 0, 2, 0, "r"), start, left, ("c", (), (USES,), go("d")), ("d", (), (), GIVE))
        self.check_blocks(None, start, ("b", (), (DEFINES, USES), go("d")), right, ("d", (), (), GIVE))
        # One register cannot be defined on both arms, and two names do not cover each other.
        self.check_blocks(
            ("twice", 0, "r"), start, left, ("c", (), (DEFINES,), go("d")), ("d", (), (USES,), GIVE),
        )
        self.check_blocks(
            ("use", 0, 3, 0, "r"), start, left, ("c", (), (("num", "s", 1),), go("d")), ("d", (), (USES,), GIVE),
        )

    def test_ahead_of_an_if_and_behind_both_arms(self):
        blocks = (("b", (), (USES,), go("d")), ("c", (), (), go("d")), ("d", (), (USES,), GIVE))
        self.check_blocks(None, ("a", (), (DEFINES,), fork("b", "c")), *blocks)

    def test_both_arms_to_one_block(self):
        start = ("a", (), (), fork("b", "b"))
        self.check_blocks(None, start, ("b", (), (DEFINES,), go("c")), ("c", (), (USES,), GIVE))

    def test_in_the_body_of_a_loop_and_behind_it(self):
        start, head = ("a", (), (), go("b")), ("b", (), (), fork("c", "d"))
        body, behind = ("c", (), (DEFINES,), go("b")), ("d", (), (USES,), GIVE)
        self.check_blocks(("use", 0, 3, 0, "r"), start, head, body, behind)
        self.check_blocks(("use", 0, 1, 0, "r"), start, ("b", (), (USES,), fork("c", "d")), body, behind)
        self.check_blocks(None, start, ("b", (), (DEFINES,), fork("c", "d")), ("c", (), (USES,), go("b")), behind)

    def test_ahead_of_the_definition_in_a_loop_of_one_block(self):
        start = ("a", (), (), go("b"))
        self.check_blocks(("use", 0, 1, 0, "r"), start, ("b", (), (USES, DEFINES), go("b")))
        self.check_blocks(None, start, ("b", (), (DEFINES, USES), go("b")))

    def test_parameters_of_blocks(self):
        start = ("a", (), (), ("if", "x", "b", ("x",), "c", ()))
        block = ("b", ("r",), (USES,), ("if", "r", "b", ("r",), "c", ()))
        self.check_blocks(None, start, block, ("c", (), (), GIVE))
        self.check_blocks(("use", 0, 2, 0, "r"), start, block, ("c", (), (USES,), GIVE))
        self.check_blocks(None, ("a", (), (), ("go", "b", ("x",))), block, ("c", (), (USES,), GIVE))
        self.check_blocks(("use", 0, 0, 0, "r"), ("a", (), (), ("go", "b", ("r",))), ("b", ("r",), (), GIVE))

    def test_the_first_place_in_the_order_of_the_function(self):
        # The way comes to d first, but c stands first.
        self.check_blocks(
            ("use", 0, 2, 1, "r"),
            ("a", (), (), go("d")), ("b", (), (("show", "s"),), GIVE),
            ("c", (), (("show", "x"), USES), GIVE), ("d", (), (USES,), go("c")),
        )
        good = ("abc", ("x",), (("a", (), (), GIVE),))
        bad = ("x",), (("a", (), (USES,), ("give", "s")),)
        self.check(("use", 1, 0, 0, "r"), ((), (good, ("main", *bad), ("zed", *bad))))

    def test_twice_is_told_before_use(self):
        self.check(("twice", 0, "r"), one_block(USES, DEFINES, DEFINES))
        first = ("abc", ("x",), (("a", (), (USES,), GIVE),))
        second = ("main", ("x", "x"), (("a", (), (), GIVE),))
        self.check(("twice", 1, "x"), ((), (first, second)))


def walk(function):
    """Tell (b, i) -> sets of the registers that a way has passed there, by going all ways."""
    order = {block[0]: b for b, block in enumerate(function[2])}
    passed_at = {}
    waiting = [(0, frozenset(function[1]))]
    seen = set()
    while waiting:
        b, passed = waiting.pop()
        if (b, passed) in seen:
            continue
        seen.add((b, passed))
        _, parameters, instructions, end = function[2][b]
        passed = passed | set(parameters)
        for i, thing in enumerate((*instructions, end)):
            passed_at.setdefault((b, i), []).append(passed)
            if thing[0] not in ("put", "set", "show", "go", "if", "give"):
                passed = passed | {thing[1]}
        for at, part in enumerate(end):
            if (end[0], at) in (("go", 1), ("if", 2), ("if", 4)):
                waiting.append((order[part], passed))
    return passed_at


def used(thing):
    """List the registers that one of the words of the random functions uses."""
    if thing[0] == "if":
        return [thing[1], *thing[3], *thing[5]]
    if thing[0] == "go":
        return list(thing[2])
    return list(thing[1:] if thing[0] in ("show", "give") else thing[2:])


def expected(function):
    """Tell the reason use of a module of this function alone, from the words of the document."""
    passed_at = walk(function)
    for b, block in enumerate(function[2]):
        for i, thing in enumerate((*block[2], block[3])):
            for local in used(thing):
                if not all([local in passed for passed in passed_at.get((b, i), [])]):
                    return ("use", 0, b, i, local)
    return None


def random_function(source):
    """Make a function main in which each register is defined at most once."""
    fresh = samples.names(80)
    count = source.randint(1, 7)
    labels = samples.names(count)
    rooms = [fresh[10 * b:10 * b + source.randint(0, 2)] if b else [] for b in range(count)]
    # A register is used in later blocks, which need not be behind its definition, and seldom in others.
    defined = ["x"] * 3
    blocks, ends = [], []
    for b in range(count):
        defined.extend(rooms[b])
        instructions = []
        for at in range(source.randint(0, 2)):
            local = fresh[10 * b + 5 + at]
            words = (("none", local), ("not", local, source.choice(defined)), ("show", source.choice(defined)))
            instructions.append(source.choice(words))
            if instructions[-1][0] != "show":
                defined.append(local)
        blocks.append((labels[b], tuple(rooms[b]), tuple(instructions)))
        ends.append([*defined, source.choice(fresh)] if source.random() < 0.1 else list(defined))
    return ("main", ("x",), tuple([
        (*block, random_end(source, blocks, choice)) for block, choice in zip(blocks, ends)
    ]))


def random_end(source, blocks, defined):
    """Make an end that leads to any blocks but the entry."""
    word = source.choice(("give", "go", "if", "if")) if len(blocks) > 1 else "give"
    if word == "give":
        return ("give", source.choice(defined))
    parts = []
    for _ in range(1 if word == "go" else 2):
        name, room, _ = source.choice(blocks[1:])
        parts.extend([name, tuple([source.choice(defined) for _ in room])])
    return (word, *parts) if word == "go" else (word, source.choice(defined), *parts)


class AllWays(unittest.TestCase):
    def test_random_functions(self):
        source = random.Random(7)
        told = []
        for _ in range(6000):
            function = random_function(source)
            reason = expected(function)
            self.assertEqual(module_error(((), (function,))), reason, function)
            told.append(reason is None)
        # Both answers have to occur often, or the comparison says little.
        self.assertGreater(told.count(True), 600)
        self.assertGreater(told.count(False), 600)


if __name__ == "__main__":
    unittest.main()

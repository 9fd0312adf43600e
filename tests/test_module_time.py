"""Promise 7: module_error asks little of each place, and answers of drawn modules as before."""

import random
import sys
import unittest

import drawn
import samples
from clobberwalk.modules import module_error


def places(module):
    return sum([len(block[2]) + 1 for function in module[1] for block in function[2]])


def calls_of(action):
    """Count the calls of Python functions and builtins: repeatable, unlike the seconds that they take."""
    count = [0]

    def notice(_, event, __):
        if event in ("call", "c_call"):
            count[0] += 1
    sys.setprofile(notice)
    try:
        action()
    finally:
        sys.setprofile(None)
    return count[0]


def sums(first, blocks, lengths):
    """List blocks of two nums and sums of them, with ends that lead anywhere but to the entry."""
    names = drawn.labels("b", blocks)
    found = []
    for b in range(blocks):
        locals_ = drawn.labels(chr(ord(first) + b), lengths[b % len(lengths)])
        things = [("num", locals_[0], 1), ("num", locals_[1], 2)]
        for at in range(2, len(locals_)):
            things.append(("add", locals_[at], locals_[at - 1], locals_[at - 2]))
        ends = (names[b + 1] if b + 1 < blocks else names[1], names[1 + 5 * b % (blocks - 1)])
        found.append((names[b], (), tuple(things), ("if", locals_[0], ends[0], (), ends[1], ())))
    return tuple(found)


class Calls(unittest.TestCase):
    def check(self, module):
        self.assertIsNone(module_error(module))
        most = 300 + 50 * places(module)
        self.assertLess(calls_of(lambda: module_error(module)), most)

    def test_twelve_blocks_of_sums(self):
        self.check(((), (("main", (), sums("a", 12, (9,))),)))

    def test_three_functions_of_five_blocks(self):
        blocks = sums("a", 5, (8, 4))
        self.check(((), (("f", (), blocks), ("g", (), blocks), ("main", (), blocks))))

    def test_drawn_modules(self):
        source = random.Random(5)
        for _ in range(100):
            self.check(drawn.draw_module(source))


class KnownNames(unittest.TestCase):
    """A name that was found to be one stands in all places for names, and in no others."""

    def check(self, reason, *instructions, end=("give", "x")):
        self.assertEqual(module_error(samples.one_block(*instructions, end=end)), reason)

    def test_a_name_in_the_place_of_an_integer(self):
        self.check(("instruction", 0, 0, 1), ("none", "r"), ("num", "s", "r"))
        self.check(("instruction", 0, 0, 1), ("none", "num"), ("num", "s", "num"))

    def test_a_name_in_the_place_of_a_tuple(self):
        self.check(("instruction", 0, 0, 1), ("none", "r"), ("call", "s", "main", "r"))
        self.check(("instruction", 0, 0, 1), ("none", "r"), ("ask", "s", "r", "r"))
        self.check(("instruction", 0, 0, 1), ("none", "r"), end=("go", "r", "r"))
        self.check(("instruction", 0, 0, 1), ("none", "r"), end=("if", "x", "r", (), "r", "r"))

    def test_a_tuple_and_an_integer_in_the_place_of_a_name(self):
        self.check(("instruction", 0, 0, 1), ("none", "r"), ("none", ("r",)))
        self.check(("instruction", 0, 0, 1), ("none", "r"), ("num", 1, 1))

    def test_words_of_ends_and_instructions_in_the_place_of_the_other(self):
        self.check(("instruction", 0, 0, 0), ("give", "x"))
        self.check(("instruction", 0, 0, 0), ("go", "a", ()))
        self.check(("instruction", 0, 0, 0), ("if", "x", "a", (), "a", ()))
        self.check(("instruction", 0, 0, 0), end=("show", "x"))
        self.check(("instruction", 0, 0, 0), end=("call", "r", "main", ("x", "y")))
        self.check(None, ("none", "give"), ("none", "if"), ("show", "give"), end=("give", "if"))

    def test_letters_that_are_not_from_a_to_z(self):
        for name in ("\u00e9", "a\u00df", "\u00aa", "R", "aB", "a ", "a1", "a-b"):
            self.check(("instruction", 0, 0, 0), ("none", name))
            self.assertEqual(module_error(((), (("main", (name,), samples.SMALL[1][0][2]),))), ("function", 0))

    def test_a_word_that_is_no_string_or_too_long(self):
        for word in (None, 1, ("num",), ["num"], "nums", "", "NUM"):
            self.check(("instruction", 0, 0, 0), (word, "r", 1))


if __name__ == "__main__":
    unittest.main()

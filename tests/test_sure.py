"""Promises 20, 21: sure places, and the sorts of values."""

import random
import unittest

import drawn
import samples
from clobberwalk.errors import UnknownName
from clobberwalk.facts import holds
from clobberwalk.faults import is_sure, sorts, words
from naive_told import Told
from written import body, module

KINDS = "kind box key left\nkind pair left right"


class Sure(unittest.TestCase):
    def at(self, expected, value, place):
        self.assertIs(is_sure(value, place), expected)

    def check(self, expected, index, text, parameters="x"):
        self.at(expected, body(text, parameters), ("main", "a", index))

    def either(self, lines, made="new p pair", other="none q"):
        """Make a module in whose block b the register o holds what one or the other line makes."""
        text = f"{KINDS}\nfunction main x y\nblock a\n{made}\n{other}\nif x b p / b q\nblock b o\n{lines}"
        return module(text)

    def test_no_words(self):
        self.check(True, 0, "new p pair\nget r p left\ngive r")
        self.check(True, 1, "new p pair\nget r p left\ngive r")
        self.check(True, 2, "new p pair\nget r p left\ngive r")
        self.check(True, 0, "less r x x\ngive r")

    def test_other_words(self):
        self.check(False, 0, "add r x x\ngive r")
        self.check(False, 0, "row r x\ngive r")
        self.check(False, 1, "none o\nshow o\ngive o")
        self.check(False, 1, "none o\nask r o\ngive r")

    def test_a_function_that_is_not_live(self):
        value = module("function main\nblock a\nnone o\ngive o\nfunction other\nblock a\nnone o\nshow o\ngive o")
        self.at(True, value, ("other", "a", 1))

    def test_behind_another_access_in_its_block(self):
        for first in ("get r o left", "put o left x", "get r o right", "put o right o"):
            for second in ("get s o left", "put o left x", "get s o right", "put o right o"):
                value = self.either(f"{first}\n{second}\nput o left x\ngive x")
                self.assertEqual(words(value, ("main", "b", 1)), ("object",))
                self.at(False, value, ("main", "b", 0))
                self.at(True, value, ("main", "b", 1))
                self.at(True, value, ("main", "b", 2))

    def test_behind_an_access_of_elements(self):
        made = "num n 3\nnum i 1\nrow p n"
        for first in ("at r o i", "set o i x"):
            for second in ("at s o i", "set o i x"):
                value = self.either(f"{first}\n{second}\ngive x", made)
                self.assertEqual(words(value, ("main", "b", 1)), ("row",))
                self.at(False, value, ("main", "b", 0))
                self.at(True, value, ("main", "b", 1))

    def test_not_if_there_is_another_word(self):
        value = self.either("at r o x\nat s o x\ngive s", "num n 3\nrow p n")
        self.assertEqual(words(value, ("main", "b", 1)), ("row", "index"))
        self.at(False, value, ("main", "b", 1))
        value = self.either("at r o y\nat s o y\ngive s", "num n 3\nrow p n", "num q 4")
        self.at(False, value, ("main", "b", 1))

    def test_not_behind_an_access_of_the_other_sort(self):
        value = self.either("num i 0\nat r o i\nget s o left\ngive s", other="num n 3\nrow q n")
        self.assertEqual(words(value, ("main", "b", 2)), ("object",))
        self.at(False, value, ("main", "b", 2))
        value = self.either("num i 0\nget s o left\nat r o i\ngive s", other="num n 3\nrow q n")
        self.assertEqual(words(value, ("main", "b", 2)), ("row",))
        self.at(False, value, ("main", "b", 2))

    def test_not_behind_an_access_with_another_base(self):
        text = f"{KINDS}\nfunction main x\nblock a\nnew p pair\nnone q\nif x b p p / b q q\nblock b o u\nget r u left\n" \
               "get s o left\ngive s"
        self.at(False, module(text), ("main", "b", 1))
        # The stored register and the index are no bases.
        value = self.either("put p left o\nget s o left\ngive s", other="new q box")
        self.at(True, value, ("main", "b", 1))
        value = self.either("new w box\nput w left o\nget s o left\ngive s")
        self.at(False, value, ("main", "b", 2))

    def test_not_ahead_of_the_other_access(self):
        value = self.either("get s o left\nget r o left\ngo c\nblock c\ngive o")
        self.at(False, value, ("main", "b", 0))

    def test_in_a_loop_the_access_itself_is_not_another_one(self):
        value = self.either("get s o left\nif x b o / c\nblock c\nget t o left\ngive o")
        self.at(False, value, ("main", "b", 0))
        self.at(True, value, ("main", "c", 0))

    def test_a_later_access_of_a_loop_does_not_dominate(self):
        value = self.either("get s o left\nget t o left\nif x b o / c\nblock c\ngive o")
        self.at(False, value, ("main", "b", 0))

    def test_in_a_block_that_dominates_and_in_one_that_does_not(self):
        text = "{}\nif x c / d\nblock c\n{}\ngo e\nblock d\ngo e\nblock e\n{}\ngive o"
        value = self.either(text.format("get r o left", "get s o left", "get t o left"))
        self.at(True, value, ("main", "c", 0))
        self.at(True, value, ("main", "e", 0))
        value = self.either(text.format("num r 1", "get s o left", "get t o left"))
        self.at(False, value, ("main", "c", 0))
        self.at(False, value, ("main", "e", 0))

    def test_accesses_of_blocks_and_functions_that_do_not_come_before(self):
        value = self.either("go c\nblock c\nget t o left\ngive o\nblock d\nget s o left\ngo c")
        self.at(False, value, ("main", "c", 0))
        value = module(f"{KINDS}\nfunction main o\nblock a\nget r o left\ngive o\nfunction other o\nblock a\nget r o left\n"
                       "give o")
        self.at(False, value, ("main", "a", 0))

    def test_kinds_with_and_without_the_field(self):
        value = self.either("get r o left\nget s o right\nget t o right\nget u o left\ngive o", other="new q box")
        for index, told, expected in ((0, (), True), (1, ("object",), False), (2, ("object",), False), (3, (), True)):
            self.assertEqual(words(value, ("main", "b", index)), told)
            self.at(expected, value, ("main", "b", index))

    def test_rows_and_other_things_need_no_field(self):
        for other in ("none q", "fun q main", "num q 1", "num n 1\nrow q n"):
            value = self.either("get r o right\nget s o left\ngive o", other=other)
            self.at(False, value, ("main", "b", 0))
            self.at(True, value, ("main", "b", 1))

    def test_any_objects_at_an_access_of_elements(self):
        value = self.either("at r o i\nat s o i\ngive s", "num n 3\nnum i 0\nrow p n", "new q box")
        self.assertEqual(words(value, ("main", "b", 1)), ("row",))
        self.at(True, value, ("main", "b", 1))


class Sorts(unittest.TestCase):
    VALUE = module("""
kind pair left right
function main x
block a
none o
fun f main
new p pair
row q x
num n 1
put p left o
put p left f
put p left p
put p left q
put p left n
get all p left
get none p right
call r ring
give all
block dead
none d
give d
function other y
block a
new z pair
give z
function ring
block a
call r ring
give r
""")

    def check(self, expected, local, f="main"):
        found = sorts(self.VALUE, f, local)
        self.assertIsInstance(found, tuple)
        self.assertEqual(found, tuple(expected.split()))

    def test_each_sort(self):
        for local, expected in zip("xofpqn", ("number", "none", "function", "object", "row", "number")):
            self.check(expected, local)

    def test_all_sorts_ascending(self):
        self.check("function none number object row", "all")
        self.check("none", "none")

    def test_several_things_of_one_sort_are_one(self):
        value = module("kind unit\nfunction main x\nblock a\nnew p unit\nnew q unit\nif x b p / b q\nblock b o\ngive o")
        self.assertEqual(len(holds(value, "main", "o")), 2)
        self.assertEqual(sorts(value, "main", "o"), ("object",))

    def test_nothing(self):
        self.check("", "d")
        self.check("", "y", "other")
        self.check("", "z", "other")
        self.check("", "r")

    def test_unknown_names(self):
        for f, local, wrong in (("nowhere", "nothing", "nowhere"), ("main", "nothing", "nothing"), ("main", "y", "y")):
            with self.assertRaises(UnknownName) as caught:
                sorts(self.VALUE, f, local)
            self.assertEqual(caught.exception.value, wrong)

    def test_drawn_modules(self):
        source = random.Random(22)
        for _ in range(60):
            value = drawn.draw_module(source, 4, 4, 8)
            told = Told(value)
            for holder in told.world.holders():
                if holder[0] == "register":
                    self.assertEqual(sorts(value, *holder[1:]), told.sorts(*holder[1:]))


class Samples(unittest.TestCase):
    def test_the_example(self):
        value = samples.EXAMPLE
        self.assertTrue(is_sure(value, ("main", "loop", 0)))
        self.assertTrue(is_sure(value, ("main", "loop", 1)))
        self.assertEqual(sorts(value, "main", "q"), ("none", "number"))


if __name__ == "__main__":
    unittest.main()

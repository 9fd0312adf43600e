"""Promises 2, 20, 21: the words of the faults that can come at a place."""

import random
import unittest

import drawn
import naive
import samples
from clobberwalk.faults import is_sure, words
from clobberwalk.machine import run
from naive_told import Told
from written import body, module


class Words(unittest.TestCase):
    def at(self, expected, value, place):
        self.assertEqual(words(value, place), tuple(expected.split()))

    def check(self, expected, index, text, parameters="x"):
        self.at(expected, body(text, parameters), ("main", "a", index))


class Number(Words):
    USES = ("add r {0} n", "add r n {0}", "sub r {0} n", "sub r n {0}", "mul r {0} n", "mul r n {0}", "less r {0} n",
            "less r n {0}", "not r {0}", "row r {0}", "show {0}", "at r w {0}", "set w {0} n")

    def test_each_word(self):
        for use in self.USES:
            text = "num n 5\nrow w n\nnone o\n{}\ngive n".format(use.format("o"))
            self.check("number", 3, text)
            self.check("number", 3, text.replace("none o", "fun o main"))
            self.check("number", 3, text.replace("none o", "new o pair"))
            self.check("number", 3, text.replace("none o", "row o n"))

    def test_beside_an_integer(self):
        for use in self.USES:
            text = "num n 5\nrow w n\nset w n n\nat o w n\n{}\ngive n".format(use.format("o"))
            self.assertEqual(words(body(text, "x"), ("main", "a", 4))[0], "number")

    def test_integers_alone(self):
        for use in self.USES:
            text = "num n 5\nrow w n\nnum o 1\n{}\ngive n".format(use.format("o"))
            self.assertNotIn("number", words(body(text, "x"), ("main", "a", 3)))

    def test_an_if(self):
        value = module("function main x\nblock a\nnone o\nif x b / c\nblock b\nif o c / c\nblock c\ngive o")
        self.at("", value, ("main", "a", 1))
        self.at("number", value, ("main", "b", 0))

    def test_registers_that_need_be_no_integers(self):
        self.check("", 2, "none o\nfun f main\nsame r o f\ngive r")
        self.check("", 4, "num n 3\nnum i 0\nrow w n\nnone o\nset w i o\ngive o")
        self.check("", 2, "new p pair\nnone o\nput p left o\ngive o")
        self.check("", 1, "none o\ngive o")


class Great(Words):
    def test_sums_differences_products(self):
        for word in ("add", "sub", "mul"):
            self.check("great", 0, f"{word} r x y\ngive r", "x y")
            self.check("great", 2, f"num n 0\nnum m 0\n{word} r n m\ngive r")
            self.check("number", 1, f"none o\n{word} r x o\ngive r")
            self.check("number", 1, f"none o\n{word} r o x\ngive r")

    def test_beside_other_things(self):
        value = module("function main x\nblock a\nnone o\nif x b x / b o\nblock b p\nadd r p p\ngive r")
        self.at("number great", value, ("main", "b", 0))

    def test_not_where_the_result_is_small(self):
        self.check("", 0, "less r x y\ngive r", "x y")
        self.check("", 0, "not r x\ngive r")


class Length(Words):
    def test_nums(self):
        for length in (0, 1, 59, 60):
            self.check("", 1, f"num n {length}\nrow r n\ngive r")
        for length in (-1, 61, 10 ** 40, -10 ** 40):
            self.check("length", 1, f"num n {length}\nrow r n\ngive r")

    def test_what_is_not_defined_by_a_num(self):
        self.check("length", 0, "row r x\ngive r")
        self.check("length", 2, "num n 1\nnot m n\nrow r m\ngive r")
        self.check("number", 1, "none o\nrow r o\ngive r")
        value = module("function main\nblock a\nnum n 3\ngo b n\nblock b k\nrow r k\ngive r")
        self.at("length", value, ("main", "b", 0))

    def test_a_num_of_another_function_with_this_register(self):
        value = module("function main n\nblock a\nrow r n\ngive r\nfunction other\nblock a\nnum n 3\ngive n")
        self.at("length", value, ("main", "a", 0))

    def test_beside_other_things(self):
        value = module("function main x\nblock a\nnone o\nif x b x / b o\nblock b p\nrow r p\ngive r")
        self.at("number length", value, ("main", "b", 0))


class Object(Words):
    def test_each_sort_of_thing(self):
        for made in ("none p", "num p 1", "fun p main", "row p x", "new p unit", "new p box"):
            self.check("object", 1, f"{made}\nget r p right\ngive r")
            self.check("object", 1, f"{made}\nput p right x\ngive x")
        for made in ("new p pair", "new p box"):
            self.check("", 1, f"{made}\nget r p left\ngive r")
            self.check("", 1, f"{made}\nput p left x\ngive x")

    def test_kinds_with_and_without_the_field(self):
        text = "{}\nfunction main x\nblock a\nnew p pair\nnew q box\nif x b p / b q\nblock b o\nget r o {}\ngive r"
        kinds = "kind box key left\nkind pair left right"
        for field, expected in (("left", ""), ("right", "object"), ("key", "object")):
            self.at(expected, module(text.format(kinds, field)), ("main", "b", 0))


class Rows(Words):
    def test_each_sort_of_thing(self):
        for made in ("none p", "fun p main", "new p pair", "num p 1"):
            self.check("row", 1, f"{made}\nat r p x\ngive r")
            self.check("row", 1, f"{made}\nset p x x\ngive x")

    def test_beside_a_row(self):
        value = module("function main x\nblock a\nnum n 3\nrow p n\nnone o\nif x b p / b o\nblock b q\nat r q n\n"
                       "set q n x\nset q x n\ngive r")
        self.at("row index", value, ("main", "b", 0))
        self.at("row index", value, ("main", "b", 2))

    def test_number_row_and_index(self):
        value = module("function main x\nblock a\nnum n 1\nrow p n\nif x b p x / b x p\nblock b q i\nat r q i\ngive r")
        self.at("number row index", value, ("main", "b", 0))


class Index(Words):
    def test_nums(self):
        for length in (0, 1, 3, 60):
            for index in (-1, 0, 1, 2, 3, 59, 60, 61, 10 ** 40):
                expected = "" if 0 <= index < length else "index"
                text = f"num n {length}\nnum i {index}\nrow p n\n"
                self.check(expected, 3, text + "at r p i\ngive r")
                self.check(expected, 3, text + "set p i n\ngive p")

    def test_a_length_that_no_row_has(self):
        self.check("", 3, "num n 70\nnum i 65\nrow p n\nat r p i\ngive r")
        self.check("index", 3, "num n -3\nnum i 0\nrow p n\nat r p i\ngive r")
        self.check("index", 3, "num n -3\nnum i -5\nrow p n\nat r p i\ngive r")

    def test_indexes_and_lengths_that_are_not_nums(self):
        self.check("index", 2, "num n 3\nrow p n\nat r p x\ngive r")
        self.check("index", 2, "num i 0\nrow p x\nat r p i\ngive r")
        self.check("index", 1, "row p x\nset p x x\ngive p")

    def test_several_rows(self):
        text = "function main x\nblock a\nnum n {}\nnum m {}\nrow p n\nrow q m\nnum i {}\nif x b p / b q\nblock b w\n" \
               "at r w i\ngive r"
        for one, other, index in ((3, 5, 2), (3, 5, 3), (5, 3, 2), (5, 3, 3), (5, 3, 5), (0, 3, 0), (3, 3, -1)):
            expected = "" if 0 <= index < min(one, other) else "index"
            self.at(expected, module(text.format(one, other, index)), ("main", "b", 0))
        value = module(text.format(3, 5, 2).replace("row q m", "row q x"))
        self.at("index", value, ("main", "b", 0))

    def test_a_row_of_another_function(self):
        value = module("function main\nblock a\nnum i 2\ncall p make\nat r p i\ngive r\nfunction make\nblock a\nnum n {}\n"
                       "row p n\ngive p".format(3))
        self.at("", value, ("main", "a", 2))
        value = module("function main n\nblock a\nnum i 2\ncall p make n\nat r p i\ngive r\nfunction make n\nblock a\n"
                       "row p n\ngive p")
        self.at("index", value, ("main", "a", 2))

    def test_what_is_no_row_or_no_integer(self):
        self.check("row", 2, "num i 9\nnew p pair\nat r p i\ngive r")
        self.check("number", 2, "row p x\nnone o\nat r p o\ngive r")


class Function(Words):
    def test_each_sort_of_thing(self):
        for made in ("none f", "num f 1", "new f pair", "row f x"):
            self.check("function", 1, f"{made}\nask r f\ngive r")

    def test_the_numbers_of_parameters(self):
        text = "function main\nblock a\nfun f other\nask r f {}\ngive r\nfunction other x y\nblock a\ngive x"
        for args, expected in (("f f", ""), ("f", "function"), ("", "function"), ("f f f", "function")):
            self.at(expected, module(text.format(args)), ("main", "a", 1))

    def test_beside_a_function_that_fits(self):
        value = module("function main x\nblock a\nfun f one\nnone o\nif x b f / b o\nblock b g\nask r g\ngive r\n"
                       "function one\nblock a\nnum n 1\ngive n")
        self.at("function", value, ("main", "b", 0))

    def test_no_word_at_a_call(self):
        value = module("function main x\nblock a\ncall r one\ngive r\nfunction one\nblock a\nnum n 1\ngive n")
        self.at("", value, ("main", "a", 0))


RINGS = module("""
function a
block a
call r b
fun f a
ask s f
give r
function b
block a
num n 1
if n c / d
block c
call r a
give r
block d
call t c
call s e
give t
function c
block a
call r d
give r
function d
block a
num n 1
fun f e
give n
function e
block a
none o
give o
function main
block a
call r z
call s a
give s
function z
block a
call r d
give r
""")


class Deep(Words):
    def test_in_a_ring_and_below_it(self):
        for place in (("a", "a", 0), ("a", "a", 2), ("b", "c", 0), ("b", "d", 0), ("b", "d", 1), ("c", "a", 0)):
            self.at("deep", RINGS, place)

    def test_above_a_ring_and_apart_from_it(self):
        for place in (("main", "a", 0), ("main", "a", 1), ("z", "a", 0)):
            self.at("", RINGS, place)

    def test_a_function_that_calls_itself(self):
        value = module("function main x\nblock a\nif x b / c\nblock b\ncall r main x\ngive r\nblock c\ngive x")
        self.at("deep", value, ("main", "b", 0))

    def test_a_function_that_asks_itself(self):
        value = module("function main x\nblock a\nfun f main\nif x b / c\nblock b\nask r f x\ngive r\nblock c\ngive x")
        self.at("deep", value, ("main", "b", 0))

    def test_an_ask_without_a_goal(self):
        value = module("function main x\nblock a\nif x b / c\nblock b\ncall r main x\nask s x\ngive s\nblock c\ngive x")
        self.at("deep", value, ("main", "b", 0))
        self.at("function", value, ("main", "b", 1))

    def test_function_and_deep(self):
        value = module("function main x\nblock a\nfun f main\nif x b f / b x\nblock b g\nask r g x\ngive r")
        self.at("function deep", value, ("main", "b", 0))

    def test_calls_in_blocks_that_are_not_reached_make_no_ring(self):
        value = module("function main x\nblock a\ncall r one\ngive r\nfunction one\nblock a\nnum n 1\ngive n\nblock b\n"
                       "call s main n\ngive s")
        self.at("", value, ("main", "a", 0))


class NoWords(Words):
    def test_a_function_that_is_not_live(self):
        value = module("function main\nblock a\nnone o\ngive o\nfunction other\nblock a\nnone o\nshow o\nadd r o o\n"
                       "call s other\ngive r")
        for index in range(5):
            self.at("", value, ("other", "a", index))

    def test_a_used_register_that_holds_nothing(self):
        value = module("function main\nblock a\nnone o\ncall r ring\nadd s o r\nask t o r\nset o o r\nput o left r\n"
                       "call u main\nshow r\nif r b / b\nblock b\ngive o\nfunction ring\nblock a\ncall r ring\ngive r\n"
                       "kind pair left")
        for index in (2, 3, 4, 5, 7, 8):
            self.at("", value, ("main", "a", index))
        self.at("deep", value, ("main", "a", 6))

    def test_instructions_at_which_none_can_come(self):
        for text in ("num r 1", "none r", "fun r main", "new r pair", "same r x x"):
            self.check("", 0, f"{text}\ngive r")
        self.check("", 0, "give x")
        value = module("function main x\nblock a\ngo b x\nblock b y\ngive y")
        self.at("", value, ("main", "a", 0))

    def test_any_place_of_a_reached_block(self):
        for place, _ in naive.places_of(samples.RICH):
            self.assertIsInstance(words(samples.RICH, place), tuple)
            self.assertIsInstance(is_sure(samples.RICH, place), bool)


class SecondAnswer(unittest.TestCase):
    def test_drawn_modules(self):
        source = random.Random(20)
        found = {}
        for _ in range(120):
            value = drawn.draw_module(source, source.randint(1, 6), 4, 7)
            told = Told(value)
            for place, _ in told.world.places:
                self.assertEqual(words(value, place), told.words(place))
                self.assertIs(is_sure(value, place), told.is_sure(place))
                found.update(dict.fromkeys(told.words(place)))
        self.assertEqual(len(found), 8)

    def test_the_faults_of_runs(self):
        source = random.Random(21)
        found = {}
        for _ in range(250):
            value = drawn.draw_module(source, 4, 4, 7)
            inputs = [source.choice((-1, 0, 1, 2, 10 ** 40)) for _ in naive.World(value).functions["main"][1]]
            end = run(value, inputs).end
            if end[0] == "fault":
                self.assertIn(end[1], words(value, end[2]))
                self.assertFalse(is_sure(value, end[2]))
                found[end[1]] = True
        self.assertGreater(len(found), 4)


if __name__ == "__main__":
    unittest.main()

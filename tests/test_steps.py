"""Promises 2, 10, 32, 33: steps that keep the behaviour, their order, rows of them."""

import random
import unittest

import drawn
import naive
import samples
from clobberwalk.errors import InvalidStep
from clobberwalk.machine import run
from clobberwalk.modules import module_error
from clobberwalk.steps import after, is_row, passed, steps
from naive_seen import Seen
from written import body, module


def at(block, index, f="main"):
    return (f, block, index)


def words_at(value, place):
    return [step[0] for step in steps(value) if step[1] == place]


class Sort(unittest.TestCase):
    def check(self, expected, value, place):
        """Check the words of the steps at a place, and what each of them makes."""
        self.assertEqual(words_at(value, place), expected.split())
        for word in ("call", "num", "load", "store", "unused"):
            if word in expected.split():
                self.assertIsNone(module_error(after(value, (word, place))))
            else:
                with self.assertRaises(InvalidStep):
                    after(value, (word, place))

    def in_body(self, expected, text, index, parameters="x"):
        self.check(expected, body(text, parameters), at("a", index))


class Calls(Sort):
    def test_one_function_with_as_many_parameters(self):
        text = "fun f main\nask r f x\ngive r"
        self.in_body("call", text, 1)
        self.assertEqual(after(body(text, "x"), ("call", at("a", 1))), body("fun f main\ncall r main x\ngive r", "x"))

    def test_another_number_of_parameters(self):
        self.in_body("", "fun f main\nask r f x x\ngive r", 1)
        self.in_body("", "fun f main\nask r f\ngive r", 1)

    def test_what_is_no_function(self):
        for line in ("num f 1", "none f", "new f pair", "row f x"):
            self.in_body("", f"{line}\nask r f x\ngive r", 1)

    def test_several_things(self):
        text = "function main x\nblock a\nfun f main\n{}\nif x b f / b g\nblock b h\nask r h x\ngive r\nfunction other y\nblock a\ngive y"
        for line, expected in (("fun g main", "call"), ("fun g other", ""), ("none g", ""), ("num g 1", "")):
            self.check(expected, module(text.format(line)), at("b", 0))

    def test_nothing(self):
        value = module("function main x\nblock a\ngive x\nfunction other f\nblock a\nask r f f\nfun g other\nask s g f\ngive r")
        self.check("", value, at("a", 0, "other"))
        self.check("", value, at("a", 2, "other"))

    def test_a_call_is_one_already(self):
        self.in_body("", "call r main x\ngive r", 0)


class Nums(Sort):
    def test_one_register(self):
        for line in ("num o 1", "none o", "new o pair", "fun o main"):
            text = line + "\nsame r o o\nshow r\ngive r"
            self.in_body("num", text, 1)
            self.assertEqual(after(body(text, "x"), ("num", at("a", 1))), body(line + "\nnum r 1\nshow r\ngive r", "x"))

    def test_nothing_in_common(self):
        lines = ("num o 1", "none o", "new o pair", "new o unit", "row o x", "fun o main", "fun o other")
        text = "kind pair left\nkind unit\nfunction main x\nblock a\n{}\n{}\n{}\nshow r\ngive r\nfunction other\nblock a\nnone o\ngive o"
        for one in lines:
            for other in lines:
                value = module(text.format(one, other.replace(" o", " k", 1), "same r o k"))
                # Two places are two sites, even if they make one kind.
                unlike = one.split()[0] in ("new", "row") or one != other
                self.check("num" if unlike else "", value, at("a", 2))
                if unlike:
                    changed = module(text.format(one, other.replace(" o", " k", 1), "num r 0"))
                    self.assertEqual(after(value, ("num", at("a", 2))), changed)

    def test_something_in_common(self):
        self.in_body("", "num o 1\nsame r o x\ngive r", 1)
        value = module("function main x\nblock a\nnone o\nif x b o / b x\nblock b y\nsame r o y\nsame s x y\nsame t y y\ngive r")
        self.check("", value, at("b", 0))
        self.check("unused", value, at("b", 1))
        self.check("num unused", value, at("b", 2))

    def test_nothing_at_all(self):
        value = module("function main x\nblock a\ncall n ring\nsame r n x\nsame s n n\nsame t x n\nif r b / c\nblock b\ngive s\n"
                       "block c\ngive t\nfunction ring\nblock a\ncall n ring\ngive n")
        for index in (1, 2, 3):
            self.check("", value, at("a", index))

    def test_no_other_instruction(self):
        for line in ("less r x x", "sub r x x", "not r x"):
            self.in_body("", line + "\ngive r", 0)


class Loads(Sort):
    def test_what_the_store_before_stores(self):
        text = "new p pair\nput p left x\nget r p left\nshow r\ngo b r r\nblock b k l\nadd s r k\ngive r"
        value = body(text, "x")
        self.check("load", value, at("a", 2))
        self.assertEqual(after(value, ("load", at("a", 2))),
                         body("new p pair\nput p left x\nshow x\ngo b x x\nblock b k l\nadd s x k\ngive x", "x"))

    def test_replaced_in_every_use_also_in_blocks_that_are_not_reached(self):
        uses = "add a {0} {0}\nnot b {0}\nsame c {0} x\nrow d {0}\nget e {0} left\nput {0} left {0}\nat f {0} {0}\nset {0} {0} {0}\n" \
               "call g main {0}\nask h {0} {0} {0}\nshow {0}\n"
        text = "new p pair\nput p left x\n{1}go b\nblock b\n" + uses + "if {0} z {0} x / z x {0}\nblock z m n\ngive {0}\n" \
               "block dead\n" + uses.replace(" a ", " aa ").replace(" b ", " bb ").replace(" c ", " cc ").replace(" d ", " dd ") \
               .replace(" e ", " ee ").replace("at f", "at ff").replace(" g ", " gg ").replace(" h ", " hh ") + "go z {0} {0}"
        value = body(text.format("r", "get r p left\n"), "x")
        self.check("load", value, at("a", 2))
        self.assertEqual(after(value, ("load", at("a", 2))), body(text.format("x", ""), "x"))

    def test_of_elements(self):
        text = "num n 3\nrow q n\nnum i 1\nnum j 1\nset q {} x\nat r q {}\ngive r"
        for one, other, expected in (("i", "i", "load"), ("i", "j", "load"), ("x", "x", "load"), ("i", "x", ""), ("x", "j", "")):
            self.in_body(expected, text.format(one, other), 5)

    def test_another_base_field_or_index(self):
        self.in_body("", "new p pair\nput p left x\nget r p right\ngive r", 2)
        self.in_body("", "new p pair\nnew q pair\nput q left x\nget r p left\ngive r", 3)
        self.check("", body("new p pair\ngo b p\nblock b q\nput q left x\nget r p left\ngive r", "x"), at("b", 1))
        self.in_body("", "num n 3\nrow q n\nnum i 1\nset q i x\nnum j 2\nat r q j\ngive r", 5)

    def test_a_writer_between(self):
        self.in_body("load", "new p pair\nput p left x\nput p right p\nget r p left\ngive r", 3)
        value = body("new p pair\ngo b p\nblock b q\nput p left x\nput q left x\nget r p left\ngive r", "x")
        self.check("", value, at("b", 2))
        value = module("kind pair left\nfunction main x\nblock a\nnew p pair\nput p left x\ncall i f p\nget r p left\ngive r\n"
                       "function f y\nblock a\n{}\ngive y".format("put y left y"))
        self.check("", value, at("a", 3))
        value = module("kind pair left\nfunction main x\nblock a\nnew p pair\nput p left x\ncall i f p\nget r p left\ngive r\n"
                       "function f y\nblock a\n{}\ngive y".format("get z y left"))
        self.check("load", value, at("a", 3))

    def test_a_join_or_the_start(self):
        text = "new p pair\nif x b / c\nblock b\nput p left x\ngo d\nblock c\nput p left x\ngo d\nblock d\nget r p left\ngive r"
        self.check("", body(text, "x"), at("d", 0))
        self.in_body("", "new p pair\nget r p left\nput p left x\ngive r", 1)

    def test_a_call_that_writes_is_no_store(self):
        # Its register is the base of the load, and its function has the name of the index.
        value = module("function i y\nblock b\nnum n 1\nrow w n\nnum o 0\nset w o y\ngive w\n"
                       "function main x\nblock a\nnum i 0\ncall q i x\nat r q i\ngive r")
        self.check("", value, at("a", 2))

    def test_a_store_in_a_dominator(self):
        text = "new p pair\nput p left x\nif x b / c\nblock b\nget r p left\ngive r\nblock c\ngive x"
        self.check("load", body(text, "x"), at("b", 0))

    def test_stores_themselves_and_functions_that_are_not_live(self):
        self.in_body("", "new p pair\nput p left x\nput p left x\nget r p left\ngive r", 2)
        value = module("kind box key\nfunction main x\nblock a\ngive x\nfunction other y\nblock a\nnew p box\nput p key y\nget r p key\n"
                       "give r")
        self.check("", value, at("a", 2, "other"))


class Stores(Sort):
    def test_no_load_of_the_cell(self):
        text = "new p pair\nput p left x\nget r p right\ngive r"
        self.in_body("store", text, 1)
        self.assertEqual(after(body(text, "x"), ("store", at("a", 1))), body("new p pair\nget r p right\ngive r", "x"))
        self.in_body("", "new p pair\nput p left x\nget r p left\ngive r", 1)
        self.in_body("", "new p pair\nget r p left\nput p left x\ngive r", 2)

    def test_a_load_in_another_function(self):
        text = "kind pair left\nfunction main x\nblock a\nnew p pair\nput p left x\ncall r f p\ngive r\nfunction f y\nblock a\n{}\ngive y"
        self.check("", module(text.format("get z y left")), at("a", 1))
        self.check("store", module(text.format("put y left y")), at("a", 1))

    def test_loads_in_blocks_that_are_not_reached_and_functions_that_are_not_live(self):
        text = "new p pair\nput p left x\ngive x\nblock dead\nget r p left\ngive r"
        self.in_body("store", text, 1)
        value = module("kind pair left\nfunction main x\nblock a\nnew p pair\nput p left x\ngive x\nfunction f\nblock a\nnew p pair\n"
                       "get z p left\nput p left z\ngive z")
        self.check("store", value, at("a", 1))
        self.check("store", value, at("a", 2, "f"))

    def test_what_is_not_sure(self):
        value = body("new p pair\nnone o\nif x b p / b o\nblock b q\nput q left x\nput q left x\ngive x", "x")
        self.check("", value, at("b", 0))
        # Behind the first access no other fault can come.
        self.check("store", value, at("b", 1))
        self.in_body("", "put x left x\ngive x", 0)

    def test_rows(self):
        text = "num n 3\nrow q n\nnum i {}\nset q i x\n{}give x"
        self.in_body("store", text.format(2, ""), 3)
        self.in_body("", text.format(3, ""), 3)
        self.in_body("", text.format(2, "num j 1\nat r q j\n"), 3)
        self.in_body("", "num n 3\nrow q n\nset q x x\ngive x", 2)

    def test_registers_that_hold_nothing(self):
        value = module("kind pair left\nfunction main x\nblock a\ncall n ring\nput n left x\ngive x\nfunction ring\nblock a\ncall n ring\n"
                       "give n")
        self.check("store", value, at("a", 1))


class Unused(Sort):
    def test_each_word(self):
        for line in ("num r 1", "none r", "fun r main", "new r pair"):
            self.in_body("unused", line + "\ngive x", 0)
        self.in_body("num unused", "same r x x\ngive x", 0)
        self.in_body("unused", "num n 1\nrow r n\ngive x", 1)
        self.in_body("unused", "new p pair\nget r p left\ngive x", 1)
        self.in_body("unused", "num n 1\nnum i 0\nrow p n\nat r p i\ngive x", 3)

    def test_it_is_taken_out(self):
        self.assertEqual(after(body("num n 1\nrow r n\ngive x", "x"), ("unused", at("a", 1))), body("num n 1\ngive x", "x"))

    def test_other_words(self):
        for line in ("add r x x", "sub r x x", "mul r x x", "less r x x", "not r x", "call r main x", "ask r x x", "show x"):
            self.in_body("", line + "\ngive x", 0)

    def test_what_is_not_sure(self):
        for line in ("row r x", "get r x left", "at r x x"):
            self.in_body("", line + "\ngive x", 0)
        self.in_body("", "num n 61\nrow r n\ngive x", 1)
        self.in_body("", "num n 1\nnum i 1\nrow p n\nat r p i\ngive x", 3)
        value = body("new p pair\nnone o\nif x b p / b o\nblock b q\nget r q left\nget s q left\ngive x", "x")
        self.check("", value, at("b", 0))
        self.check("unused", value, at("b", 1))

    def test_used_by_anything(self):
        for line in ("add s r x", "same s x r", "put x left r", "show r", "call s main r", "ask s r", "set r x x"):
            self.assertNotIn("unused", words_at(body(f"num r 1\n{line}\ngive x", "x"), at("a", 0)))
        self.in_body("", "num r 1\ngive r", 0)
        self.in_body("", "num r 1\nif x b r / b x\nblock b k\ngive k", 0)
        self.in_body("", "num r 1\nif x b x / b r\nblock b k\ngive k", 0)
        self.in_body("", "num r 1\nif r b / b\nblock b\ngive x", 0)
        self.in_body("", "num r 1\ngo b r\nblock b k\ngive k", 0)

    def test_used_in_a_block_that_is_not_reached(self):
        self.in_body("", "num r 1\ngive x\nblock dead\nshow r\ngive x", 0)
        self.in_body("", "num r 1\ngive x\nblock dead\ngive r", 0)

    def test_in_functions_that_are_not_live(self):
        value = module("function main x\nblock a\ngive x\nfunction other y\nblock a\nrow r y\nget s y key\nat t y y\nadd u y y\ngive y\n"
                       "kind box key")
        for index, expected in enumerate(("unused", "unused", "unused", "")):
            self.check(expected, value, at("a", index, "other"))

    def test_a_name_that_another_function_uses_too(self):
        value = module("function main x\nblock a\nnum r 1\ngive x\nfunction other y\nblock a\nnum r 1\ngive r")
        self.check("unused", value, at("a", 0))
        self.check("", value, at("a", 0, "other"))


class Functions(unittest.TestCase):
    def listed(self, *lines):
        return [step for step in steps(module("\n".join(lines))) if step[0] == "function"]

    def test_not_live_and_not_named(self):
        main, other = "function main x\nblock a\ngive x", "function {}\nblock a\nnone o\ngive o"
        self.assertEqual(self.listed(main, other.format("z"), other.format("b")), [("function", "b"), ("function", "z")])
        self.assertEqual(after(module(main + "\n" + other.format("b")), ("function", "b")), module(main))

    def test_live(self):
        self.assertEqual(self.listed("function main x\nblock a\ncall r f\ngive r\nfunction f\nblock a\nnone o\ngive o"), [])

    def test_named_by_another_one(self):
        for line in ("call r f", "fun r f"):
            f = "function f\nblock a\nnone o\ngive o"
            self.assertEqual(self.listed(f"function main x\nblock a\ngive x\nblock dead\n{line}\ngive x", f), [])
            self.assertEqual(self.listed("function main x\nblock a\ngive x", f, f"function g\nblock a\n{line}\ngive r"), [("function", "g")])
            self.assertEqual(self.listed("function main x\nblock a\ngive x", f,
                                         f"function g\nblock a\nnone o\ngive o\nblock dead\n{line}\ngive r"), [("function", "g")])

    def test_named_by_itself(self):
        self.assertEqual(self.listed("function main x\nblock a\ngive x", "function f\nblock a\nfun g f\ncall r f\ngive r"),
                         [("function", "f")])

    def test_a_name_of_something_else(self):
        self.assertEqual(self.listed("kind f f", "function main f\nblock f\nnew p f\nget q p f\ngive f", "function f\nblock a\nnone o\ngive o"),
                         [("function", "f")])

    def test_two_that_name_each_other(self):
        f = "function {}\nblock a\ncall r {}\ngive r"
        self.assertEqual(self.listed("function main x\nblock a\ngive x", f.format("f", "g"), f.format("g", "f")), [])


MANY = module("""
kind pair left right
function idle
block a
num n 1
none o
give o
function main x
block z
fun f same
ask r f x
new p pair
put p left x
put p right x
get s p left
same t s s
if t k / b
block dead
num m 1
give m
block b
num n 1
give n
block k
none o
give o
function same y
block a
give y
function twin
block a
fun f twin
give f
""")


class Order(unittest.TestCase):
    def test_by_functions_blocks_indexes_words(self):
        self.assertEqual(steps(MANY), [
            ("unused", ("idle", "a", 0)), ("call", ("main", "z", 1)), ("store", ("main", "z", 4)), ("load", ("main", "z", 5)),
            ("num", ("main", "z", 6)), ("function", "idle"), ("function", "twin"),
        ])

    def test_two_at_one_place(self):
        value = body("new p pair\nput p left x\nget r p left\nsame s x x\ngive x", "x")
        self.assertEqual(steps(value), [
            ("load", at("a", 2)), ("unused", at("a", 2)), ("num", at("a", 3)), ("unused", at("a", 3)),
        ])

    def test_blocks_in_the_order_of_the_function(self):
        value = body("if x c / b\nblock c\nnum n 1\ngive x\nblock b\nnum m 1\nnum l 1\ngive x", "x")
        self.assertEqual(steps(value), [("unused", at("c", 0)), ("unused", at("b", 0)), ("unused", at("b", 1))])

    def test_passed_does_the_first_one_again_and_again(self):
        done, made = passed(MANY)
        current = MANY
        for step in done:
            self.assertEqual(step, steps(current)[0])
            current = after(current, step)
        self.assertEqual(steps(current), [])
        self.assertEqual(made, current)
        self.assertIsInstance(done, list)
        self.assertEqual(made, module(
            "kind pair left right\nfunction main x\nblock z\ncall r same x\nnum t 1\nif t k / b\nblock dead\nnum m 1\ngive m\n"
            "block b\nnum n 1\ngive n\nblock k\nnone o\ngive o\nfunction same y\nblock a\ngive y"))

    def test_passed_where_there_is_no_step(self):
        self.assertEqual(passed(samples.SMALL), ([], samples.SMALL))


class After(unittest.TestCase):
    def test_any_other_value(self):
        values = [
            *samples.STRAYS, *[list(step) for step in steps(MANY)], *[(step,) for step in steps(MANY)], *[step[0] for step in steps(MANY)],
            *[(*step, 1) for step in steps(MANY)], *[step[::-1] for step in steps(MANY)], ("nothing", ("main", "z", 1)),
            ("unused", ("idle", "a", False)), ("unused", ("idle", "a", 1)), ("unused", ["idle", "a", 0]), ("function", "main"),
            ("function", ["idle"]), ("function", "nowhere"), ("function", ("main", "z", 1)), ("call", "idle"), ("num", ("main", "z", True)),
            ("unused", ("main", "dead", 0)), ("unused", ("idle", "a", -2)), ("unused", ("idle", "a", 2)), ("store", ("main", "z", 7)),
            ("unused", ("nowhere", "a", 0)), ("unused", ("idle", "z", 0)), (["unused"], ("idle", "a", 0)), run(samples.RICH, [1]),
            ("unused", None), ("unused", {}), ("unused", (run(samples.RICH, [1]), "a", 0)),
        ]
        for value in values:
            with self.assertRaises(InvalidStep) as caught:
                after(MANY, value)
            self.assertIs(caught.exception.value, value)

    def test_each_step_of_the_list_can_be_done(self):
        for step in steps(MANY):
            self.assertIsNone(module_error(after(MANY, step)))


class Rows(unittest.TestCase):
    def setUp(self):
        self.done, self.made = passed(MANY)

    def test_lists_and_tuples(self):
        self.assertIs(is_row(MANY, self.done, self.made), True)
        self.assertIs(is_row(MANY, tuple(self.done), self.made), True)

    def test_no_steps(self):
        for none in ([], ()):
            self.assertIs(is_row(MANY, none, MANY), True)
            self.assertIs(is_row(MANY, none, self.made), False)

    def made_by(self, row):
        """Do a row step by step; None if a step cannot be done."""
        value = MANY
        for step in row:
            if step not in steps(value):
                return None
            value = after(value, step)
        return value

    def test_left_out_doubled_exchanged(self):
        wrong = 0
        for place, step in enumerate(self.done):
            for row in (self.done[:place] + self.done[place + 1:], self.done[:place] + [step] + self.done[place:],
                        self.done[:place] + self.done[place:][::-1]):
                self.assertIs(is_row(MANY, row, self.made), self.made_by(row) == self.made)
                wrong += self.made_by(row) != self.made
        self.assertGreater(wrong, len(self.done))
        # What is taken out of a function that goes anyway can be left.
        self.assertIs(is_row(MANY, self.done[1:], self.made), True)
        self.assertIs(is_row(MANY, self.done[:-1], self.made), False)

    def test_another_order(self):
        idle, same = ("unused", ("idle", "a", 0)), ("num", ("main", "z", 6))
        both = after(after(MANY, idle), same)
        self.assertIs(is_row(MANY, [idle, same], both), True)
        self.assertIs(is_row(MANY, [same, idle], both), True)
        # Behind the load the same stands at another index.
        load = ("load", ("main", "z", 5))
        self.assertIs(is_row(MANY, [load, same], after(after(MANY, same), load)), False)
        self.assertIs(is_row(MANY, [load, ("num", ("main", "z", 5))], after(after(MANY, same), load)), True)

    def test_another_module_behind_them(self):
        for other in [MANY, samples.RICH, samples.replaced(self.made, (0, 0, 0), "twin"), list(self.made), [self.made], (self.made,)]:
            self.assertIs(is_row(MANY, self.done, other), False)

    def test_true_in_the_place_of_an_integer(self):
        place = [path for path in samples.paths(self.made) if samples.part_at(self.made, path) == 1][0]
        self.assertIs(is_row(MANY, self.done, samples.replaced(self.made, place, 1)), True)
        self.assertIs(is_row(MANY, self.done, samples.replaced(self.made, place, True)), False)
        self.assertIs(is_row(MANY, [], samples.replaced(MANY, (1, 0, 2, 0, 2, 0, 2), True)), False)

    def test_any_values(self):
        for value in [*[one for one in samples.STRAYS if one not in ((), [])], self.done[0], dict.fromkeys(self.done), run(samples.RICH, [1])]:
            self.assertIs(is_row(MANY, value, self.made), False)
            self.assertIs(is_row(MANY, value, MANY), False)
            self.assertIs(is_row(MANY, self.done, value), False)
            self.assertIs(is_row(MANY, [value], MANY), False)
            self.assertIs(is_row(MANY, [*self.done, value], self.made), False)
        for step in self.done:
            self.assertIs(is_row(MANY, [list(one) if one == step else one for one in self.done], self.made), False)


class SecondAnswer(unittest.TestCase):
    def test_drawn_modules(self):
        source = random.Random(34)
        found = []
        for _ in range(110):
            value = drawn.draw_module(source, 4, 4, 8)
            expected = Seen(value).steps()
            self.assertEqual(steps(value), expected)
            found.extend([step[0] for step in expected])
        for word in ("call", "num", "load", "store", "unused", "function"):
            self.assertGreater(found.count(word), 8, word)

    def test_runs_before_and_after_behave_alike(self):
        source = random.Random(35)
        many, words = 0, []
        for _ in range(350):
            value = drawn.draw_module(source, 4, 4, 9)
            done, made = passed(value)
            self.assertIs(is_row(value, done, made), True)
            for _ in range(3):
                inputs = [source.randint(-1, 4) for _ in naive.World(value).functions["main"][1]]
                before = run(value, inputs, 20000)
                if before.end != ("limit",) and before.end[:2] != ("fault", "deep"):
                    later = run(made, inputs, 20000)
                    self.assertEqual(later.behaviour, before.behaviour)
                    self.assertTrue(before.end[0] == "fault" or later.steps <= before.steps)
                    many += len(done) > 0
                    words.extend([step[0] for step in done])
        self.assertGreater(many, 300)
        for word in ("call", "num", "load", "store", "unused", "function"):
            self.assertGreater(words.count(word), 30, word)


if __name__ == "__main__":
    unittest.main()

"""Promises 6, 8, 9, 10: what a run does, step by step, and how it ends."""

import random
import unittest

import drawn
import naive
import samples
from clobberwalk.machine import run
from written import body, module

GREATEST = 10 ** 40


class Runs(unittest.TestCase):
    def end(self, end, value, inputs=(), limit=2000):
        self.assertEqual(run(value, list(inputs), limit).end, end)

    def gives(self, value, text, parameters="", inputs=()):
        self.end(("value", value), body(text, parameters), inputs)

    def faults(self, word, index, text, parameters="", inputs=()):
        result = run(body(text, parameters), list(inputs))
        self.assertEqual(result.end, ("fault", word, ("main", "a", index)))
        self.assertEqual(result.steps, index + 1)
        self.assertEqual(result.behaviour, (result.outputs, ("fault", word)))


class Integers(Runs):
    def test_sums_differences_products(self):
        for word, results in (("add", (1, -3, 40)), ("sub", (5, 1, 40)), ("mul", (-6, 2, 0))):
            for inputs, result in zip(((3, -2), (-1, -2), (40, 0)), results):
                self.gives(result, f"{word} r x y\ngive r", "x y", inputs)

    def test_at_the_bounds(self):
        self.gives(GREATEST, "num r {}\ngive r".format(GREATEST))
        self.gives(-GREATEST, "num r {}\ngive r".format(-GREATEST))
        self.gives(GREATEST, "add r x y\ngive r", "x y", (GREATEST - 1, 1))
        self.gives(-GREATEST, "sub r x y\ngive r", "x y", (1 - GREATEST, 1))
        self.gives(GREATEST, "mul r x y\ngive r", "x y", (10 ** 20, 10 ** 20))
        self.gives(-GREATEST, "mul r x y\ngive r", "x y", (-GREATEST, 1))
        self.gives(0, "add r x y\ngive r", "x y", (GREATEST, -GREATEST))

    def test_great(self):
        for word, inputs in (
            ("add", (GREATEST, 1)), ("add", (-GREATEST, -1)), ("add", (GREATEST, GREATEST)),
            ("sub", (GREATEST, -1)), ("sub", (-GREATEST, 1)),
            ("mul", (GREATEST, GREATEST)), ("mul", (-GREATEST, 2)), ("mul", (10 ** 20, 10 ** 20 + 1)),
        ):
            self.faults("great", 0, f"{word} r x y\ngive r", "x y", inputs)

    def test_comparisons(self):
        for one, other in ((1, 2), (2, 1), (2, 2), (-GREATEST, GREATEST), (GREATEST, -GREATEST), (0, -1)):
            self.gives(int(one < other), "less r x y\ngive r", "x y", (one, other))
        for value in (0, 1, -1, GREATEST):
            self.gives(int(value == 0), "not r x\ngive r", "x", (value,))

    def test_number(self):
        for text in ("add r x o", "add r o x", "sub r o x", "sub r x o", "mul r o o", "less r o x", "less r x o",
                     "not r o", "row r o", "show o", "at r o o", "set o o x"):
            self.faults("number", 1, f"none o\n{text}\ngive x", "x", (1,))
            self.faults("number", 1, f"fun o main\n{text}\ngive x", "x", (1,))
        self.faults("number", 2, "num n 2\nrow o n\nadd r o n\ngive r")
        self.faults("number", 1, "new o pair\nshow o\ngive o")

    def test_number_at_an_if(self):
        value = module("function main\nblock a\nnone o\nif o b / b\nblock b\ngive o")
        self.end(("fault", "number", ("main", "a", 1)), value)


class Same(Runs):
    def test_values_of_one_sort(self):
        text = "num n 1\nnum m 1\nnum k 2\nnone o\nnone q\nfun f main\nfun g main\nfun h other\nnew p pair\n" \
               "new s pair\nrow t k\nrow u k\nsame r {} {}\ngive r\nfunction other\nblock a\nnone x\ngive x"
        equal = ("n m", "o q", "f g", "p p", "t t", "n n", "o o")
        unequal = ("n k", "f h", "p s", "t u", "n o", "n f", "o f", "p t", "p o", "k t", "h p")
        for words in equal:
            self.gives(1, text.format(*words.split()))
        for words in unequal:
            self.gives(0, text.format(*words.split()))
            self.gives(0, text.format(*reversed(words.split())))

    def test_zero_and_one_are_not_none_or_functions(self):
        self.gives(0, "none o\nsame r x o\ngive r", "x", (0,))
        self.gives(0, "fun f main\nsame r x f\ngive r", "x", (1,))

    def test_one_object_behind_another_register_and_a_cell(self):
        self.gives(1, "new p pair\nput p left p\nget q p left\nsame r p q\ngive r")
        self.gives(0, "new p pair\nnew s pair\nput p left s\nget q p left\nsame r p q\ngive r")


class Objects(Runs):
    def test_fields_begin_with_none(self):
        self.gives(None, "new p pair\nget r p right\ngive r")

    def test_fields_are_apart(self):
        text = "new p pair\nput p left x\nput p right y\nget r p {}\ngive r"
        self.gives(3, text.format("left"), "x y", (3, 4))
        self.gives(4, text.format("right"), "x y", (3, 4))

    def test_objects_are_apart(self):
        self.gives(None, "new p pair\nnew q pair\nput p left x\nget r q left\ngive r", "x", (3,))

    def test_the_last_store_counts(self):
        self.gives(4, "new p pair\nput p left x\nput p left y\nget r p left\ngive r", "x y", (3, 4))

    def test_one_name_of_two_kinds(self):
        self.gives(3, "new p box\nput p left x\nget r p left\ngive r", "x", (3,))

    def test_object(self):
        for made in ("none o", "num o 1", "fun o main", "num n 1\nrow o n", "new o unit", "new o box"):
            index = len(made.split("\n"))
            self.faults("object", index, f"{made}\nget r o right\ngive r")
            self.faults("object", index, f"{made}\nput o right o\ngive o")

    def test_the_ends_of_values(self):
        self.gives(("object", "pair"), "new p pair\ngive p")
        self.gives(("object", "unit"), "new p unit\ngive p")
        self.gives(("fun", "main"), "fun p main\ngive p")
        self.gives(None, "none p\ngive p")
        self.gives(-7, "num p -7\ngive p")


class Rows(Runs):
    def test_each_length(self):
        for length in range(61):
            self.gives(("row", length), "row p x\ngive p", "x", (length,))
            if length:
                self.gives(None, "row p x\nnum n 1\nsub i x n\nat r p i\ngive r", "x", (length,))
                self.gives(length, "row p x\nnum n 0\nset p n x\nat r p n\ngive r", "x", (length,))

    def test_length(self):
        for length in (-1, 61, GREATEST, -GREATEST):
            self.faults("length", 0, "row p x\ngive p", "x", (length,))

    def test_index(self):
        for length, index in ((0, 0), (1, 1), (1, -1), (60, 60), (60, -60), (3, GREATEST), (3, -1)):
            self.faults("index", 1, "row p x\nat r p y\ngive r", "x y", (length, index))
            self.faults("index", 1, "row p x\nset p y x\ngive p", "x y", (length, index))

    def test_elements_are_apart(self):
        text = "num n 3\nrow p n\nset p x y\nat r p z\ngive r"
        for at in range(3):
            for other in range(3):
                self.gives(9 if at == other else None, text, "x y z", (at, 9, other))

    def test_row(self):
        for made in ("none o", "num o 1", "fun o main", "new o pair"):
            self.faults("row", 1, f"{made}\nat r o x\ngive r", "x", (0,))
            self.faults("row", 1, f"{made}\nset o x x\ngive o", "x", (0,))


class Order(Runs):
    """Of several reasons the first one in the order of the document."""

    def test_number_before_row_and_index(self):
        self.faults("number", 1, "none o\nat r o o\ngive r")
        self.faults("number", 2, "num n 1\nrow o n\nset o o n\ngive n")

    def test_row_before_index(self):
        self.faults("row", 1, "none o\nat r o x\ngive r", "x", (-1,))

    def test_number_before_great(self):
        self.faults("number", 1, "none o\nmul r x o\ngive r", "x", (GREATEST,))

    def test_function_before_deep(self):
        value = module("""
function main
block a
fun f deeper
num n 40
ask r f n
give r
function deeper n
block a
num one 1
sub m n one
if m b / c
block b
fun f deeper
ask r f m
give r
block c
ask s m m
give s
""")
        self.end(("fault", "function", ("deeper", "c", 0)), value)
        self.assertEqual(run(value, []).steps, 3 + 39 * 5 + 4)


DEEPER = """
function main n
block a
fun f deeper
{}
give r
function deeper n
block a
if n b / c
block b
num one 1
sub m n one
fun f deeper
{}
give r
block c
give n
"""


class Calls(Runs):
    def test_a_call_gives_its_value(self):
        value = module("""
function main x y
block a
call r minus y x
call s minus x y
mul t r s
give t
function minus x y
block a
sub z x y
give z
""")
        self.end(("value", -9), value, (5, 2))
        self.assertEqual(run(value, [5, 2]).steps, 8)

    def test_an_ask_gives_its_value(self):
        value = module("""
function main x
block a
if x b / c
block b
fun f one
go d f
block c
fun g two
go d g
block d h
ask r h
give r
function one
block a
num r 1
give r
function two
block a
num r 2
give r
""")
        self.end(("value", 2), value, (0,))
        self.end(("value", 1), value, (5,))

    def test_main_can_be_called(self):
        value = module("""
function main x
block a
if x b / c
block b
num n 1
sub m x n
call r main m
add s r n
give s
block c
give x
""")
        self.end(("value", 7), value, (7,))
        self.end(("value", 40), value, (40,))
        self.end(("fault", "deep", ("main", "b", 2)), value, (41,))

    def test_the_41st_call_that_is_not_finished(self):
        for first, second in (("call r deeper n", "call r deeper m"), ("ask r f n", "ask r f m"),
                              ("call r deeper n", "ask r f m")):
            value = module(DEEPER.format(first, second))
            self.end(("value", 0), value, (39,))
            self.end(("fault", "deep", ("deeper", "b", 3)), value, (40,))
            self.assertEqual(run(value, [40]).steps, 2 + 40 * 5)

    def test_finished_calls_do_not_count(self):
        value = module("""
function main n
block a
go b n
block b i
num one 1
sub j i one
call r leaf
if j b j / c
block c
give r
function leaf
block a
none x
give x
""")
        self.end(("value", None), value, (100,))

    def test_a_ring_of_two_functions(self):
        value = module("""
function even n
block a
if n b / c
block b
num one 1
sub m n one
call r odd m
give r
block c
num s 1
give s
function main n
block a
call r even n
give r
function odd n
block a
if n b / c
block b
num one 1
sub m n one
call r even m
give r
block c
give n
""")
        for n in range(40):
            self.end(("value", int(n % 2 == 0)), value, (n,))
        self.end(("fault", "deep", ("odd", "b", 2)), value, (40,))

    def test_function(self):
        for made in ("none o", "num o 1", "new o pair", "num n 1\nrow o n"):
            self.faults("function", len(made.split("\n")), f"{made}\nask r o\ngive r")
        for args in ("", "x", "x x x"):
            self.faults("function", 1, f"fun o main\nask r o {args}\ngive r", "x y", (1, 2))

    def test_registers_of_calls_are_apart(self):
        value = module("""
function main
block a
num x 1
call r other
give x
function other
block a
num x 2
give x
""")
        self.end(("value", 1), value)

    def test_objects_outlive_calls(self):
        value = module("""
kind pair left right
function main x
block a
new p pair
call r fill p x
get s p left
give s
function fill p x
block a
put p left x
none r
give r
""")
        self.end(("value", 8), value, (8,))

    def test_a_fault_in_a_called_function(self):
        value = module("function main\nblock a\ncall r bad\ngive r\nfunction bad\nblock z\nnone o\nshow o\ngive o")
        self.end(("fault", "number", ("bad", "z", 1)), value)
        self.assertEqual(run(value, []).steps, 3)


class Blocks(Runs):
    def test_parameters_get_their_values_all_at_once(self):
        value = module("""
function main n
block a
num x 1
num y 2
go b x y n
block b p q i
num one 1
sub j i one
show p
if i b q p j / c
block c
give q
""")
        result = run(value, [3])
        self.assertEqual((result.outputs, result.end), ((1, 2, 1, 2), ("value", 1)))

    def test_a_register_that_is_passed_to_itself_and_another(self):
        value = module("""
function main n
block a
num x 1
go b x n
block b p q
show p
show q
if q c / d
block c
num z 0
go b q z
block d
give p
""")
        self.assertEqual(run(value, [7]).outputs, (1, 7, 7, 0))

    def test_the_arms_of_an_if(self):
        value = module("function main x\nblock a\nif x b x / c\nblock b y\ngive y\nblock c\nnone o\ngive o")
        for number in (1, -1, GREATEST):
            self.end(("value", number), value, (number,))
        self.end(("value", None), value, (0,))

    def test_both_arms_to_one_block(self):
        value = module("function main x y z\nblock a\nif x b y / b z\nblock b p\ngive p")
        self.end(("value", 2), value, (1, 2, 3))
        self.end(("value", 3), value, (0, 2, 3))

    def test_registers_are_defined_anew_in_a_loop(self):
        value = module("""
function main n
block a
none o
go b n o
block b i last
new p pair
same s p last
show s
num one 1
sub j i one
if j b j p / c
block c
give p
kind pair left right
""")
        self.assertEqual(run(value, [3]).outputs, (0, 0, 0))
        self.assertEqual(run(value, [3]).made, (("main", "b", 0),) * 3)


class Properties(Runs):
    def test_outputs_and_steps(self):
        result = run(body("show x\nshow x\nshow y\ngive x", "x y"), [3, -GREATEST])
        self.assertEqual(result.outputs, (3, 3, -GREATEST))
        self.assertEqual(result.steps, 4)
        self.assertEqual(result.behaviour, ((3, 3, -GREATEST), ("value", 3)))

    def test_made(self):
        value = module("""
kind pair left right
function main
block a
num n 1
row r n
new p pair
call q other
call s other
give r
function other
block z
none o
new p pair
give o
""")
        made = (("main", "a", 1), ("main", "a", 2), ("other", "z", 1), ("other", "z", 1))
        self.assertEqual(run(value, []).made, made)
        self.assertEqual(run(value, [], 2).made, made[:1])
        self.assertEqual(run(value, [], 1).made, ())

    def test_what_was_shown_and_made_before_a_fault(self):
        result = run(body("new p pair\nshow x\nshow p\ngive x", "x"), [4])
        self.assertEqual((result.outputs, result.made), ((4,), (("main", "a", 0),)))
        self.assertEqual(result.behaviour, ((4,), ("fault", "number")))

    def test_the_kinds_of_the_properties(self):
        for inputs in ([0], [1]):
            result = run(samples.EXAMPLE, inputs)
            self.assertEqual(
                [type(part) for part in (result.outputs, result.steps, result.made, result.end, result.behaviour)],
                [tuple, int, tuple, tuple, tuple],
            )

    def test_equal_calls_give_equal_results(self):
        self.assertEqual(run(samples.EXAMPLE, [0], 99), run(samples.EXAMPLE, (0,), 99))
        self.assertEqual(run(samples.EXAMPLE, [7]), run(samples.EXAMPLE, [7]))
        self.assertNotEqual(run(samples.EXAMPLE, [0], 99), run(samples.EXAMPLE, [0], 98))
        self.assertNotEqual(run(samples.EXAMPLE, [0]), 7)

    def test_results_that_differ_in_one_property(self):
        value = module("kind pair left\nfunction main x y\nblock a\nif x b / c\nblock b\nnew p pair\ngo d\nblock c\n"
                       "new q pair\ngo d\nblock d\nshow y\nif y e / f\nblock e\nnone o\ngive o\nblock f\nnone n\n"
                       "go g\nblock g\ngive n")
        first = run(value, [1, 1])
        for inputs, names in (([2, 1], []), ([0, 1], ["made"]), ([1, 2], ["outputs"]), ([1, 0], ["outputs", "steps"])):
            other = run(value, inputs)
            differing = [name for name in ("outputs", "steps", "made", "end") if getattr(first, name) != getattr(other, name)]
            self.assertEqual(differing, names)
            self.assertIs(first == other, not names)
        value = module("function main x\nblock a\nif x b / c\nblock b\nnone n\ngive n\nblock c\ngive x")
        self.assertNotEqual(run(value, [0]), run(value, [0], 1))
        self.assertNotEqual(run(body("give x", "x"), [1]), run(body("give x", "x"), [2]))
        value = module("function main x\nblock a\nif x b / c\nblock b\ngo c\nblock c\nnone o\ngive o")
        self.assertNotEqual(run(value, [0]), run(value, [1]))


class Limits(Runs):
    def test_one_step(self):
        value = body("none o\ngive o")
        self.end(("limit",), value, (), 1)
        self.assertEqual(run(value, [], 1).steps, 1)
        self.end(("value", None), value, (), 2)
        self.end(("value", 3), body("give x", "x"), (3,), 1)

    def test_the_last_step(self):
        for steps in range(1, 6):
            result = run(samples.EXAMPLE, [9], steps)
            self.assertEqual((result.steps, result.end), (steps, ("limit",)))
        self.assertEqual((run(samples.EXAMPLE, [9], 6).steps, run(samples.EXAMPLE, [9], 6).end), (6, ("value", 9)))

    def test_a_fault_at_the_last_step(self):
        value = body("none o\nshow o\ngive o")
        self.end(("limit",), value, (), 1)
        self.end(("fault", "number", ("main", "a", 1)), value, (), 2)

    def test_twenty_thousand(self):
        result = run(samples.EXAMPLE, [0], 20000)
        self.assertEqual((result.steps, result.end, result.behaviour), (20000, ("limit",), ((), ("limit",))))

    def test_two_thousand_if_nothing_is_said(self):
        self.assertEqual(run(samples.EXAMPLE, [0]).steps, 2000)


class SecondAnswer(unittest.TestCase):
    def test_drawn_modules(self):
        source = random.Random(10)
        ends = set()
        for _ in range(400):
            value = drawn.draw_module(source, 4, 5, 8)
            many = len(naive.World(value).functions["main"][1])
            inputs = [source.randint(-2, 3) for _ in range(many)]
            limit = source.choice((1, 10, 100, 2000))
            machine = naive.Machine(value, limit)
            end = machine.run(inputs)
            result = run(value, inputs, limit)
            self.assertEqual(result.end, end)
            self.assertEqual(result.steps, machine.steps)
            self.assertEqual((result.outputs, result.made), (tuple(machine.outputs), tuple(machine.made)))
            ends.add(end[:2] if end[0] == "fault" else end[0])
        self.assertGreater(len(ends), 8)


if __name__ == "__main__":
    unittest.main()

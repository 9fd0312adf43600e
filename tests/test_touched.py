"""Promise 11: the places, cells and steps of the loads and stores that a run does."""

import random
import unittest

import drawn
import naive
import samples
from clobberwalk.machine import run, touched
from written import body, module


class Touched(unittest.TestCase):
    def check(self, expected, value, inputs=(), limit=2000):
        self.assertEqual(touched(value, list(inputs), limit), expected)

    def test_each_word(self):
        value = body("new p pair\nput p right x\nget q p left\nrow r x\nset r y q\nat s r y\ngive s", "x y")
        self.check([
            (("main", "a", 1), (0, "right"), 1), (("main", "a", 2), (0, "left"), 2),
            (("main", "a", 4), (1, 1), 4), (("main", "a", 5), (1, 1), 5),
        ], value, (2, 1))

    def test_nothing(self):
        self.check([], samples.SMALL)
        self.check([], body("new p pair\nrow r x\ngive p", "x"), (3,))

    def test_none_of_those_with_a_fault(self):
        self.check([(("main", "a", 1), (0, "left"), 1)], body("new p pair\nget q p left\nget r q left\ngive q"))
        self.check([(("main", "a", 1), (0, 0), 1)], body("row r x\nat q r y\nset r x y\ngive q", "x y"), (1, 0))
        self.check([], body("row r x\nat q r x\ngive q", "x"), (1,))

    def test_objects_and_rows_are_numbered_together(self):
        value = body("row r x\nnew p pair\nrow s x\nset s y x\nput p left x\nset r y x\ngive r", "x y")
        self.check([
            (("main", "a", 3), (2, 0), 3), (("main", "a", 4), (1, "left"), 4), (("main", "a", 5), (0, 0), 5),
        ], value, (1, 0))
        self.assertEqual(run(value, [1, 0]).made, (("main", "a", 0), ("main", "a", 1), ("main", "a", 2)))

    def test_in_a_loop(self):
        self.check(
            [(("main", "start", 1), (0, "left"), 1)]
            + [(("main", "loop", 0), (0, "left"), 3 + 2 * at) for at in range(4)],
            samples.EXAMPLE, (0,), 10,
        )

    def test_new_objects_in_a_loop(self):
        value = module("""
kind pair left right
function main n
block a
go b n
block b i
new p pair
put p left i
num one 1
sub j i one
if j b j / c
block c
give p
""")
        self.check([(("main", "b", 1), (at, "left"), 2 + 5 * at) for at in range(3)], value, (3,))

    def test_in_functions_that_are_called_again(self):
        value = module("""
kind pair left right
function main
block a
new p pair
call x fill p
call y fill p
get z p right
give z
function fill p
block f
new q pair
put p right q
give q
""")
        self.check([
            (("fill", "f", 1), (0, "right"), 3), (("fill", "f", 1), (0, "right"), 7), (("main", "a", 3), (0, "right"), 9),
        ], value)

    def test_within_the_limit(self):
        value = body("new p pair\nput p left x\nget q p left\ngive q", "x")
        both = [(("main", "a", 1), (0, "left"), 1), (("main", "a", 2), (0, "left"), 2)]
        self.check([], value, (1,), 1)
        self.check(both[:1], value, (1,), 2)
        self.check(both, value, (1,), 3)
        self.assertEqual(len(touched(samples.EXAMPLE, [0], 20000)), 10000)
        self.assertEqual(len(touched(samples.EXAMPLE, [0])), 1000)

    def test_the_list_is_new(self):
        first = touched(samples.EXAMPLE, [0], 9)
        first.clear()
        self.assertEqual(len(touched(samples.EXAMPLE, [0], 9)), 4)

    def test_drawn_modules(self):
        source = random.Random(11)
        many = 0
        for _ in range(300):
            value = drawn.draw_module(source, 4, 5, 9)
            inputs = [source.randint(-1, 3) for _ in naive.World(value).functions["main"][1]]
            machine = naive.Machine(value, 300)
            machine.run(inputs)
            self.check(machine.touched, value, inputs, 300)
            many += len(machine.touched)
        self.assertGreater(many, 300)


if __name__ == "__main__":
    unittest.main()

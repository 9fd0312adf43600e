"""Promise 34: the first inputs by which two modules are parted."""

import itertools
import random
import unittest

import drawn
import naive
import samples
from clobberwalk.errors import InvalidModule, InvalidNumber, WrongInputs
from clobberwalk.machine import run
from clobberwalk.modules import module_error
from clobberwalk.parting import parted
from clobberwalk.steps import passed
from written import body


def one(text):
    """Make a module that gives an integer of its input x."""
    return body(text, "x", "")


SAME = one("give x")
BOUNDS = [*[value for value in samples.STRAYS if type(value) is not int], -1, 10 ** 40, "2", [2], (2,)]


def first_parting(module, other, greatest, limit):
    """Find the parting inputs by the words of the document."""
    count = len(naive.World(module).functions["main"][1])
    lists = [list(inputs) for inputs in itertools.product(range(-greatest, greatest + 1), repeat=count)]
    for inputs in sorted(lists, key=lambda inputs: (sum(map(abs, inputs)), inputs)):
        runs = [run(value, inputs, limit) for value in (module, other)]
        if ("limit",) not in [done.end for done in runs] and runs[0].behaviour != runs[1].behaviour:
            return (inputs, runs[0].behaviour, runs[1].behaviour)
    return None


class Parted(unittest.TestCase):
    def test_a_module_and_itself(self):
        for value in (SAME, samples.RICH, samples.EXAMPLE, samples.SMALL):
            self.assertIsNone(parted(value, value))

    def test_by_no_inputs_at_all(self):
        none, number = body("none x\ngive x", "", ""), body("num x 1\ngive x", "", "")
        self.assertEqual(parted(none, number), ([], ((), ("value", None)), ((), ("value", 1))))
        self.assertEqual(parted(none, number, greatest=0), ([], ((), ("value", None)), ((), ("value", 1))))
        self.assertIsNone(parted(none, body("none y\ngive y", "", "")))

    def test_both_behaviours_and_the_kinds_of_values(self):
        other = one("show x\nrow r x\ngive r")
        found = parted(SAME, other)
        self.assertEqual(found, ([0], ((), ("value", 0)), ((0,), ("value", ("row", 0)))))
        self.assertEqual([type(part) for part in found], [list, tuple, tuple])
        self.assertEqual(parted(other, SAME), ([0], found[2], found[1]))

    def test_faults_without_their_places(self):
        early, late = one("fun f main\nadd r f x\ngive r"), one("none n\nshow x\nnot r n\ngive r")
        self.assertEqual(parted(early, late), ([0], ((), ("fault", "number")), ((0,), ("fault", "number"))))
        late = one("none n\nnum i 1\nnum j 2\nnot r n\ngive r")
        self.assertIsNone(parted(early, late))

    def test_the_lesser_sum_of_sizes_comes_first(self):
        text = "num k {}\nsame s x k\nif s b / c\nblock b\nnum r 77\ngive r\nblock c\ngive x"
        for number in range(-3, 4):
            found = parted(SAME, one(text.format(number)), greatest=3)
            self.assertEqual(found, ([number], ((), ("value", number)), ((), ("value", 77))))
            expected = None if abs(number) > 2 else found
            self.assertEqual(parted(SAME, one(text.format(number))), expected)

    def test_of_equal_sums_the_lesser_list(self):
        self.assertEqual(parted(SAME, one("mul r x x\ngive r"))[0], [-1])
        value = body("give x", "x y", "")
        self.assertEqual(parted(value, body("give y", "x y", ""))[0], [-1, 0])
        self.assertEqual(parted(value, body("mul r x y\nadd s x r\ngive s", "x y", ""))[0], [-1, -1])
        self.assertEqual(parted(body("num r 0\ngive r", "x y z", ""), body("mul r x y\nmul s r z\ngive s", "x y z", ""))[0], [-1, -1, -1])

    def test_sum_before_order(self):
        # Only with 2 and 0, or 0 and 2, or -1 and 1 and the like do these differ.
        two = "mul a x x\nmul b y y\nadd c a b\nnum n 4\nsame s c n\nif s p / q\nblock p\ngive n\nblock q\nnum z 0\ngive z"
        self.assertEqual(parted(body("num z 0\ngive z", "x y", ""), body(two, "x y", ""))[0], [-2, 0])

    def test_greatest(self):
        other = one("num k 1\nless s k x\nif s b / c\nblock b\nnone r\ngive r\nblock c\ngive x")
        for greatest, expected in ((0, None), (1, None), (2, [2]), (3, [2])):
            found = parted(SAME, other, greatest=greatest)
            self.assertEqual(found if found is None else found[0], expected)

    def test_runs_that_do_not_end_within_the_limit(self):
        # With 0 it goes on without an end, otherwise it gives none after two steps more.
        other = one("if x b / c\nblock b\nnone r\ngive r\nblock c\ngo c")
        self.assertEqual(parted(SAME, other), ([-1], ((), ("value", -1)), ((), ("value", None))))
        self.assertEqual(parted(other, SAME, limit=3), ([-1], ((), ("value", None)), ((), ("value", -1))))
        self.assertIsNone(parted(SAME, other, limit=2))
        self.assertIsNone(parted(SAME, other, limit=1))
        self.assertIsNone(parted(one("go b\nblock b\ngo b"), SAME))

    def test_ends_exactly_at_the_limit(self):
        for limit, expected in ((1, None), (2, [0]), (20000, [0])):
            found = parted(SAME, one("num r 9\ngive r"), limit=limit)
            self.assertEqual(found if found is None else found[0], expected)

    def test_steps_part_nothing(self):
        source = random.Random(43)
        for _ in range(25):
            value = drawn.draw_module(source, 3, 3, 6)
            self.assertIsNone(parted(value, passed(value)[1], greatest=1, limit=300))

    def test_drawn_modules(self):
        source = random.Random(44)
        found = 0
        for _ in range(60):
            value, other = drawn.draw_module(source, 2, 2, 3), drawn.draw_module(source, 2, 2, 3)
            if len(naive.World(value).functions["main"][1]) == len(naive.World(other).functions["main"][1]):
                self.assertEqual(parted(value, other, limit=100), first_parting(value, other, 2, 100))
                found += parted(value, other, limit=100) is not None
        self.assertGreater(found, 10)


class Errors(unittest.TestCase):
    def check(self, error, field, value, function, *args, **more):
        with self.assertRaises(error) as caught:
            function(*args, **more)
        if field == "reason":
            self.assertEqual(caught.exception.reason, module_error(value))
        elif field is not None:
            self.assertIs(getattr(caught.exception, field), value)

    def test_either_module(self):
        for value in [*samples.STRAYS, run(samples.RICH, [1])]:
            self.check(InvalidModule, "reason", value, parted, value, SAME)
            self.check(InvalidModule, "reason", value, parted, SAME, value)
            self.check(InvalidModule, "reason", value, parted, SAME, value, greatest=9, limit=0)
        self.check(InvalidModule, "reason", 7, parted, 7, "main")

    def test_greatest_and_then_limit(self):
        two = body("give x", "x y", "")
        for value in [*BOUNDS, 4, 5]:
            self.check(InvalidNumber, "value", value, parted, SAME, SAME, greatest=value)
            self.check(InvalidNumber, "value", value, parted, SAME, two, greatest=value, limit="limit")
        for value in [*BOUNDS, 0, 20001]:
            self.check(InvalidNumber, "value", value, parted, SAME, SAME, limit=value)
            self.check(InvalidNumber, "value", value, parted, SAME, two, limit=value)
        for value in (0, 1, 2, 3):
            self.assertIsNone(parted(SAME, SAME, greatest=value))
        for value in (1, 20000):
            self.assertIsNone(parted(SAME, SAME, limit=value))

    def test_unlike_numbers_of_parameters(self):
        for text in ("", "x y", "x y z w"):
            other = body("num k 1\ngive k", text, "")
            self.check(WrongInputs, None, None, parted, SAME, other)
            self.check(WrongInputs, None, None, parted, other, SAME, greatest=0, limit=1)

    def test_the_numbers_go_by_name_alone(self):
        with self.assertRaises(TypeError):
            parted(SAME, SAME, 2)
        self.assertIsNone(parted(limit=5, other=SAME, greatest=1, module=SAME))


if __name__ == "__main__":
    unittest.main()

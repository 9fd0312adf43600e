"""Promises 3, 5, 6, 7: values that are modules, and how module_error is called."""

import copy
import inspect
import unittest

import samples
from clobberwalk import modules
from clobberwalk.modules import module_error


class Interface(unittest.TestCase):
    def test_defined_in_its_file_with_these_arguments(self):
        self.assertEqual(module_error.__module__, "clobberwalk.modules")
        self.assertIs(modules.module_error, module_error)
        self.assertEqual(list(inspect.signature(module_error).parameters), ["value"])

    def test_by_position_and_by_name(self):
        self.assertIsNone(module_error(value=samples.EXAMPLE))
        self.assertEqual(module_error(value=7), ("form",))
        self.assertEqual(module_error(7), ("form",))

    def test_equal_calls_return_equal_results_and_change_nothing(self):
        values = (*samples.STRAYS, samples.RICH, list(samples.RICH), (samples.RICH[0], [{"a": [1]}]), ((), ([],)))
        for value in values:
            before = copy.deepcopy(value)
            first = module_error(value)
            self.assertEqual(value, before)
            self.assertEqual(module_error(value), first)
            self.assertEqual(module_error(copy.deepcopy(value)), first)


class Modules(unittest.TestCase):
    def check(self, *values):
        for value in values:
            with self.subTest(value):
                self.assertIsNone(module_error(value))

    def test_the_samples(self):
        self.check(samples.EXAMPLE, samples.RICH, samples.SMALL)

    def test_kinds_with_and_without_fields(self):
        self.check(
            samples.one_block(kinds=()),
            samples.one_block(kinds=(("a", ()),)),
            samples.one_block(kinds=(("a", ()), ("b", ("b", "a")))),
        )

    def test_each_word_alone(self):
        for instruction in (
            ("num", "r", -(10 ** 40)), ("none", "r"), ("fun", "r", "main"), ("add", "r", "x", "x"),
            ("sub", "r", "x", "y"), ("mul", "r", "y", "x"), ("less", "r", "x", "y"), ("not", "r", "x"),
            ("same", "r", "x", "x"), ("new", "r", "unit"), ("row", "r", "x"), ("get", "r", "x", "left"),
            ("put", "x", "right", "y"), ("at", "r", "x", "y"), ("set", "x", "x", "x"),
            ("call", "r", "main", ("x", "y")), ("ask", "r", "x", ("y",)), ("show", "x"),
        ):
            self.check(samples.one_block(instruction))

    def test_an_ask_has_any_number_of_args(self):
        for count in range(7):
            self.check(samples.one_block(("ask", "r", "x", ("y",) * count)))

    def test_several_functions(self):
        for count in range(1, 9):
            functions = [(name, (), (("a", (), (("none", "x"),), ("give", "x")),)) for name in samples.names(count - 1)]
            self.check(((), (*functions, ("main", (), samples.SMALL[1][0][2]))))

    def test_main_may_stand_anywhere(self):
        blocks = samples.SMALL[1][0][2]
        self.check(
            ((), (("main", (), blocks), ("zed", (), blocks))),
            ((), (("abc", (), blocks), ("main", (), blocks))),
            ((), (("abc", (), blocks), ("main", (), blocks), ("maina", (), blocks))),
        )

    def test_equal_names_of_unlike_sorts(self):
        self.check((
            (("main", ("main",)),),
            (("main", ("main",), (
                ("main", (), (("put", "main", "main", "main"), ("new", "num", "main")), ("go", "num", ())),
                ("num", (), (("fun", "go", "main"),), ("give", "num")),
            )),),
        ))

    def test_equal_registers_of_two_functions(self):
        blocks = (("a", (), (("none", "z"),), ("give", "x")),)
        self.check(((), (("abc", ("x",), blocks), ("main", ("x",), blocks))))

    def test_graphs_of_blocks(self):
        give, none = ("give", "x"), ()
        for ends in (
            {"a": ("go", "b", none), "b": ("go", "b", none)},
            {"a": ("go", "b", none), "b": ("go", "c", none), "c": ("go", "b", none)},
            {"a": ("if", "x", "b", none, "c", none), "b": ("go", "c", none), "c": ("go", "b", none)},
            {"a": ("if", "x", "b", none, "b", none), "b": give},
            {"a": ("if", "x", "c", none, "b", none), "b": give, "c": give},
            {"a": give, "b": ("go", "b", none), "c": ("go", "b", none)},
            {"a": ("go", "c", none), "b": ("go", "c", none), "c": ("if", "x", "d", none, "c", none), "d": give},
        ):
            blocks = [(name, (), (), end) for name, end in ends.items()]
            self.check(samples.one_function(*blocks, parameters=("x",)))

    def test_blocks_with_parameters(self):
        self.check(samples.one_function(
            ("a", (), (), ("if", "x", "b", ("x",), "c", ("x", "x"))),
            ("b", ("p",), (), ("go", "c", ("p", "x"))),
            ("c", ("q", "r"), (), ("if", "r", "b", ("q",), "b", ("r",))),
            parameters=("x",),
        ))


if __name__ == "__main__":
    unittest.main()

"""Promises 5, 6, 7: the reasons main, size, name and twice."""

import unittest

import samples
from clobberwalk.modules import module_error
from samples import one_block, one_function, sizes

GIVE = ("give", "x")
BLOCKS = (("a", (), (), GIVE),)


class Checks(unittest.TestCase):
    def check(self, reason, *values):
        for value in values:
            with self.subTest(value):
                self.assertEqual(module_error(value), reason)


class Main(Checks):
    def test_no_main(self):
        self.check(("main",), ((), (("mai", ("x",), BLOCKS),)), ((), (("a", ("x",), BLOCKS), ("mainx", ("x",), BLOCKS))))

    def test_a_kind_or_a_block_called_main_is_not_enough(self):
        self.check(("main",), ((("main", ("main",)),), (("a", ("main",), (("main", (), (), ("give", "main")),)),)))


class Size(Checks):
    def test_one_function(self):
        for count in (1, 41, 42, 119, 120):
            self.check(None, sizes(count))
        for count in (121, 122, 123, 164, 12 * 41):
            self.check(("size",), sizes(count))

    def test_ends_of_several_functions_and_blocks_count(self):
        def value(first, second, third):
            return ((), (
                ("abc", ("x",), (("a", (), (("show", "x"),) * first, GIVE),)),
                ("main", ("x",), (
                    ("a", (), (("show", "x"),) * second, GIVE),
                    ("b", (), (("show", "x"),) * third, GIVE),
                )),
            ))
        self.check(None, value(39, 39, 39), value(40, 40, 37))
        self.check(("size",), value(39, 39, 40), value(40, 40, 38), value(40, 40, 40))


class Names(Checks):
    def test_a_kind_a_field_a_function_that_is_not_there(self):
        show = ("show", "x")
        for bad in (
            ("new", "r", "left"), ("new", "r", "main"), ("get", "r", "x", "pair"), ("get", "r", "x", "none"),
            ("put", "x", "unit", "x"), ("fun", "r", "pair"), ("fun", "r", "mainx"), ("call", "r", "a", ("x", "y")),
        ):
            self.check(("name", 0, 0, 0), one_block(bad), one_block(bad, show, bad))
            self.check(("name", 0, 0, 2), one_block(show, show, bad))
        self.check(("name", 0, 0, 0), one_block(("get", "r", "x", "left"), kinds=()))
        self.check(("name", 0, 0, 0), one_block(("new", "r", "pair"), kinds=()))

    def test_the_field_of_any_kind_will_do(self):
        kinds = (("a", ("left",)), ("b", ()), ("c", ("mid", "right")))
        for field in ("left", "mid", "right"):
            self.check(None, one_block(("get", "r", "x", field), ("put", "x", field, "y"), kinds=kinds))

    def test_args_of_a_call(self):
        for have in range(5):
            for want in range(5):
                twin = ("twin", tuple("abcd"[:want]), (("a", (), (("none", "z"),), ("give", "z")),))
                main = ("main", ("x",), (("a", (), (("call", "r", "twin", ("x",) * have),), GIVE),))
                self.check(None if have == want else ("name", 0, 0, 0), ((), (main, twin)))

    def test_a_call_of_itself(self):
        self.check(None, one_block(("call", "r", "main", ("y", "y"))))
        self.check(("name", 0, 0, 0), one_block(("call", "r", "main", ("y",))))
        self.check(("name", 0, 0, 0), one_block(("call", "r", "main", ("y", "y", "y"))))

    def test_args_of_ends(self):
        for have in range(7):
            for want in range(7):
                block = ("b", tuple("ghijkl"[:want]), (), GIVE)
                other = ("c", (), (), GIVE)
                args = ("x",) * have
                for end in (
                    ("go", "b", args), ("if", "x", "b", args, "c", ()), ("if", "x", "c", (), "b", args),
                ):
                    value = one_function(("a", (), (), end), block, other, parameters=("x",))
                    self.check(None if have == want else ("name", 0, 0, 0), value)

    def test_ends_that_lead_nowhere_or_to_the_entry(self):
        for name in ("a", "main", "q", "twin"):
            for end in (
                ("go", name, ()), ("if", "x", name, (), "b", ()), ("if", "x", "b", (), name, ()),
            ):
                blocks = (("a", (), (), ("go", "b", ())), ("b", (), (("show", "x"),), end))
                self.check(("name", 0, 1, 1), one_function(*blocks, parameters=("x",)))
        self.check(("name", 0, 0, 0), one_function(("a", (), (), ("go", "a", ())), parameters=("x",)))

    def test_blocks_of_another_function_are_not_there(self):
        blocks = (("a", (), (), ("go", "b", ())),)
        self.check(("name", 0, 0, 0), ((), (("abc", ("x",), blocks), ("main", ("x",), (*BLOCKS, ("b", (), (), GIVE))))))

    def test_also_in_blocks_that_are_not_reached(self):
        dead = ("b", (), (("show", "x"), ("new", "r", "other")), GIVE)
        self.check(("name", 0, 1, 1), one_function(*BLOCKS, dead, parameters=("x",)))
        dead = ("b", (), (), ("go", "a", ()))
        self.check(("name", 0, 1, 0), one_function(*BLOCKS, dead, parameters=("x",)))

    def test_the_first_place_is_told(self):
        good, bad = ("show", "x"), ("new", "r", "other")
        value = ((), (
            ("abc", ("x",), BLOCKS),
            ("main", ("x",), (
                ("a", (), (good,), GIVE),
                ("b", (), (good, good), ("go", "b", ("x",))),
                ("c", (), (bad,), ("go", "a", ())),
            )),
            ("zed", ("x",), (("a", (), (bad,), GIVE),)),
        ))
        self.check(("name", 1, 1, 2), value)


class Twice(Checks):
    def test_each_two_places_of_definitions(self):
        self.check(("twice", 0, "x"), one_function(*BLOCKS, parameters=("x", "x")))
        self.check(("twice", 0, "x"), one_block(("none", "x")))
        self.check(("twice", 0, "r"), one_block(("none", "r"), ("num", "r", 1)))
        start = ("a", (), (("none", "r"),), ("if", "x", "b", ("x", "x"), "c", ("x",)))
        other = ("c", ("q",), (("none", "s"),), GIVE)
        for parameters, instruction, local in (
            (("o", "p"), ("none", "t"), None),
            (("o", "o"), ("none", "t"), "o"),
            (("x", "p"), ("none", "t"), "x"),
            (("r", "p"), ("none", "t"), "r"),
            (("o", "p"), ("none", "p"), "p"),
            (("o", "q"), ("none", "t"), "q"),
            (("o", "s"), ("none", "t"), "s"),
            (("o", "p"), ("none", "q"), "q"),
            (("o", "p"), ("none", "s"), "s"),
            (("o", "p"), ("none", "r"), "r"),
        ):
            block = ("b", parameters, (instruction,), GIVE)
            reason = None if local is None else ("twice", 0, local)
            self.check(reason, one_function(start, block, other, parameters=("x",)))

    def test_each_word_that_defines(self):
        for instruction in samples.EVERY_WORD:
            if instruction[0] not in ("put", "set", "show"):
                value = one_function(("a", (), (*samples.EVERY_WORD, instruction), ("give", "n")))
                self.check(("twice", 0, instruction[1]), (value[0], (*value[1], samples.TWIN)))

    def test_also_in_blocks_that_are_not_reached(self):
        dead = ("b", ("x",), (), GIVE)
        self.check(("twice", 0, "x"), one_function(*BLOCKS, dead, parameters=("x",)))
        dead = ("b", (), (("none", "r"), ("none", "r")), GIVE)
        self.check(("twice", 0, "r"), one_function(*BLOCKS, dead, parameters=("x",)))

    def test_the_second_definition_that_comes_first_is_told(self):
        self.check(("twice", 0, "s"), one_block(("none", "r"), ("none", "s"), ("none", "s"), ("none", "r")))
        self.check(("twice", 0, "y"), one_function(*BLOCKS, parameters=("x", "y", "y", "x")))
        blocks = (
            ("a", (), (("none", "r"),), ("go", "b", ("x", "x"))),
            ("b", ("s", "r"), (("none", "s"), ("none", "x")), GIVE),
        )
        self.check(("twice", 0, "r"), one_function(*blocks, parameters=("x",)))

    def test_the_first_function_is_told(self):
        good = ("abc", ("x",), BLOCKS)
        first = ("main", ("x",), (("a", (), (("none", "r"), ("none", "r")), GIVE),))
        second = ("zed", ("x", "x"), BLOCKS)
        self.check(("twice", 1, "r"), ((), (good, first, second)))


if __name__ == "__main__":
    unittest.main()

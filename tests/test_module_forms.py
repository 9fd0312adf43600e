"""Promises 5, 6, 7: the reasons form, kind, function, block and instruction, and their bounds."""

import unittest

import samples
from clobberwalk.modules import module_error
from samples import SMALL, names, one_block, one_function

NONE = ("none", "r")
GIVE = ("give", "x")


class Forms(unittest.TestCase):
    def check(self, reason, *values):
        for value in values:
            with self.subTest(value):
                self.assertEqual(module_error(value), reason)

    def test_form(self):
        kinds, functions = SMALL
        self.check(
            ("form",),
            (), (kinds,), (kinds, functions, ()), [kinds, functions], (list(kinds), functions),
            (kinds, list(functions)), (kinds, ()), ((), ()), (None, functions), (kinds, None),
            (kinds, {"main": functions[0]}), ("", functions), (kinds, "main"),
        )

    def test_form_counts(self):
        blocks = SMALL[1][0][2]
        for count in (8, 9):
            reason = None if count == 8 else ("form",)
            kinds = tuple([(name, ()) for name in names(count)])
            self.check(reason, (kinds, SMALL[1]))
            functions = tuple([(name, (), blocks) for name in names(count - 1)])
            self.check(reason, ((), (*functions, ("main", (), blocks))))
            self.check(("form",), ((None,) * 9, SMALL[1]), ((), (None,) * 9))

    def check_kinds(self, reason, *kinds):
        self.check(reason, (kinds, SMALL[1]))

    def test_kind(self):
        good = ("b", ("left",))
        for bad in (
            ["c", ()], ("c",), ("c", (), ()), (), ("c", []), ("c", "left"), ("c", None), ("C", ()), ("", ()),
            ((), "c"), ("c", ("left", "left")), ("c", ("a", "b", "a")), ("c", ("A",)), ("c", (1,)), ("c", ((),)),
            (None, ()), (True, ()), (["c"], ()), ({}, ()),
        ):
            self.check_kinds(("kind", 0), bad)
            self.check_kinds(("kind", 1), good, bad)
            self.check_kinds(("kind", 1), good, bad, bad)

    def test_kinds_ascend(self):
        self.check_kinds(None, ("a", ()), ("aa", ()), ("ab", ()), ("b", ()))
        self.check_kinds(("kind", 1), ("a", ()), ("a", ()))
        self.check_kinds(("kind", 1), ("a", ()), ("a", ("left",)))
        self.check_kinds(("kind", 2), ("a", ()), ("c", ()), ("b", ()))
        self.check_kinds(("kind", 1), ("ab", ()), ("a", ()), ("a", ()))

    def test_fields_count(self):
        for count in range(7):
            self.check_kinds(None, ("a", tuple(names(count))))
        self.check_kinds(("kind", 0), ("a", tuple(names(7))))

    def test_names(self):
        for name in ("a", "z", "abcdefgh", "zzzzzzzz"):
            self.check_kinds(None, (name, (name,)))
        for name in ("", "abcdefghi", "A", "aZ", "a1", "1", "a ", " ", "a_b", "a-b", "`", "{", "a\n", "~"):
            self.check_kinds(("kind", 0), (name, ()))
            self.check_kinds(("kind", 0), ("a", (name,)))
            self.check(("function", 0), ((), ((name, (), SMALL[1][0][2]),)))
            self.check(("function", 0), one_block(parameters=("x", name)))
            self.check(("block", 0, 0), one_function((name, (), (NONE,), ("give", "r"))))
            self.check(("block", 0, 1), one_function(SMALL[1][0][2][0], ("b", (name,), (), GIVE)))
            self.check(("instruction", 0, 0, 0), one_block(("none", name)))
            self.check(("instruction", 0, 0, 0), one_block(end=("give", name)))

    def check_functions(self, reason, *functions):
        self.check(reason, ((), functions))

    def test_function(self):
        blocks = SMALL[1][0][2]
        good = ("b", (), blocks)
        for bad in (
            ["c", (), blocks], ("c", ()), ("c", (), blocks, ()), (), None, ("c", [], blocks), ("c", "", blocks),
            ("c", ("x", 1), blocks), ("c", (), list(blocks)), ("c", (), ()), ("c", (), None), ("c", (), "main"),
            (1, (), blocks), ((), (), blocks), ([], (), blocks), ({}, (), blocks), (False, (), blocks),
        ):
            self.check_functions(("function", 0), bad)
            self.check_functions(("function", 1), good, bad)
            self.check_functions(("function", 1), good, bad, bad)

    def test_functions_ascend(self):
        def check(reason, *order):
            self.check_functions(reason, *[(name, (), SMALL[1][0][2]) for name in order])
        check(None, "a", "main", "mainz", "z")
        check(("function", 1), "main", "main")
        check(("function", 1), "main", "a")
        check(("function", 2), "a", "z", "main")
        check(("function", 2), "a", "b", "b", "main", "main")

    def test_parameters_count(self):
        for count in range(5):
            self.check(None, one_function(SMALL[1][0][2][0], parameters=tuple(names(count))))
        self.check(("function", 0), one_function(SMALL[1][0][2][0], parameters=tuple(names(5))))

    def test_blocks_count(self):
        def blocks(count):
            return [(name, (), (), GIVE) for name in names(count)]
        for count in (1, 2, 11, 12):
            self.check(None, one_function(*blocks(count), parameters=("x",)))
        self.check(("function", 0), one_function(*blocks(13), parameters=("x",)), one_function(*(None,) * 13))

    def test_block(self):
        good = ("b", (), (), GIVE)
        for bad in (
            ["c", (), (), GIVE], ("c", (), ()), ("c", (), (), GIVE, ()), (), None, "c", ("c", [], (), GIVE),
            ("c", "", (), GIVE), ("c", ("p", 2), (), GIVE), ("c", (), [], GIVE), ("c", (), None, GIVE),
            (3, (), (), GIVE), ((), (), (), GIVE), ([], (), (), GIVE), ({}, (), (), GIVE), ("b", (), (), GIVE),
        ):
            self.check(("block", 0, 1), one_function(good, bad, parameters=("x",)))
            self.check(("block", 0, 1), one_function(good, bad, bad, parameters=("x",)))
            self.check(("block", 1, 1), ((), (("abc", ("x",), (good,)), ("main", ("x",), (good, bad, bad)))))
            self.check(
                ("block", 0, 1),
                ((), (("abc", ("x",), (good, bad)), ("main", ("x",), (bad,)))),
            )

    def test_the_entry_is_a_block_too(self):
        for bad in (None, [], ("a",), ("a", (), (), GIVE, None), ("a", ("p",), (), GIVE), ("a", (), (None,) * 41, GIVE)):
            self.check(("block", 0, 0), one_function(bad, parameters=("x",)))

    def test_equal_names_of_blocks(self):
        def check(reason, *order):
            self.check(reason, one_function(*[(name, (), (), GIVE) for name in order], parameters=("x",)))
        check(None, "c", "a", "b")
        check(("block", 0, 1), "a", "a")
        check(("block", 0, 2), "a", "b", "a")
        check(("block", 0, 2), "a", "b", "b", "a")
        blocks = (("a", (), (), GIVE),)
        self.check(None, ((), (("abc", ("x",), blocks), ("main", ("x",), blocks))))

    def test_block_parameters_count(self):
        for count in range(7):
            block = ("b", tuple(names(count)), (), GIVE)
            start = ("a", (), (), ("go", "b", ("x",) * count))
            self.check(None, one_function(start, block, parameters=("x",)))
        start = ("a", (), (), GIVE)
        self.check(("block", 0, 1), one_function(start, ("b", tuple(names(7)), (), GIVE), parameters=("x",)))

    def test_instructions_count(self):
        for count in (0, 1, 39, 40):
            self.check(None, one_block(*[("show", "x")] * count))
        self.check(("block", 0, 0), one_block(*[("show", "x")] * 41), one_block(*[None] * 41))


class Instructions(unittest.TestCase):
    def check(self, i, value):
        with self.subTest(value):
            self.assertEqual(module_error(value), None if i is None else ("instruction", 0, 0, i))

    def bad_things(self, thing):
        """List things that are made of a right one by another number or sort of one part."""
        found = [thing[:-1], (*thing, "x"), (*thing, ()), list(thing), thing[0], (list(thing[:1]), *thing[1:])]
        for at, part in enumerate(thing):
            if at > 0 and isinstance(part, str):
                strays = ("", "X", "abcdefghi", None, 1, True, ("x",), ["x"], {"x": "x"})
            elif isinstance(part, tuple):
                strays = (list(part), None, "x", ("x", 1), ("x", "X"), (("x",),), ("x",) * 7, {}, 0)
            elif at > 0:
                strays = (10 ** 40 + 1, -(10 ** 40) - 1, True, False, None, "1", (1,), [1], {}, 10 ** 79)
            else:
                strays = ("", "other", part.upper(), part + " ", None, True, 0, (), (part,), [part], {part: 1})
            found.extend([(*thing[:at], stray, *thing[at + 1:]) for stray in strays])
        return found

    def test_bad_parts_of_each_instruction(self):
        for at, thing in enumerate(samples.EVERY_WORD):
            for bad in self.bad_things(thing):
                things = (*samples.EVERY_WORD[:at], bad, *samples.EVERY_WORD[at + 1:])
                self.check(at, one_block(*things))

    def test_bad_parts_of_each_end(self):
        for end in (("go", "b", ("x",)), ("if", "x", "b", (), "c", ("y",)), ("give", "x")):
            for bad in self.bad_things(end):
                self.check(0, one_block(end=bad))
                self.check(2, one_block(("show", "x"), ("show", "y"), end=bad))

    def test_ends_among_instructions_and_instructions_as_ends(self):
        self.check(1, one_block(("show", "x"), ("give", "x")))
        self.check(0, one_block(("go", "b", ())))
        self.check(0, one_block(("if", "x", "b", (), "b", ())))
        self.check(1, one_block(("show", "x"), end=("show", "x")))
        for thing in samples.EVERY_WORD:
            self.check(0, one_block(end=thing))

    def test_no_end_at_all(self):
        for end in (None, (), [], "give", ("give",), {}, 0):
            self.check(0, one_block(end=end))

    def test_range_of_a_num(self):
        for number in (0, 1, -1, 10 ** 40, -(10 ** 40)):
            self.check(None, one_block(("num", "r", number)))
        for number in (10 ** 40 + 1, -(10 ** 40) - 1, 10 ** 79, True, False):
            self.check(0, one_block(("num", "r", number)))

    def test_at_most_six_args(self):
        six, seven = ("x",) * 6, ("x",) * 7
        self.check(None, one_block(("ask", "r", "x", six)))
        self.check(0, one_block(("ask", "r", "x", seven)))
        self.check(0, one_block(("call", "r", "main", seven)))
        self.check(0, one_block(end=("go", "b", seven)))
        self.check(0, one_block(end=("if", "x", "b", seven, "b", ())))
        self.check(0, one_block(end=("if", "x", "b", (), "b", seven)))
        # Six registers have the right form, but here they do not fit in number.
        for value in (one_block(("call", "r", "main", six)), one_block(end=("go", "b", six))):
            self.assertEqual(module_error(value), ("name", 0, 0, 0))

    def test_the_first_place_is_told(self):
        good, bad = ("show", "x"), ("show",)
        self.check(1, one_block(good, bad, bad, end=bad))
        value = (
            (),
            (
                ("abc", (), (("a", (), (("none", "x"),), ("give", "x")),)),
                ("main", ("x",), (
                    ("a", (), (good,), ("go", "c", ())),
                    ("b", (), (good, good), ("give",)),
                    ("c", (), (bad,), ("give",)),
                )),
                ("zed", (), (("a", (), (bad,), ("give",)),)),
            ),
        )
        self.assertEqual(module_error(value), ("instruction", 1, 1, 2))


if __name__ == "__main__":
    unittest.main()

"""Promise 7: the order of the ten reasons, and values of every kind in every place."""

import unittest

import samples
from clobberwalk.modules import module_error
from samples import one_block, one_function, part_at, paths, replaced

BLOCKS = (("a", (), (), ("give", "x")),)


class Order(unittest.TestCase):
    def check(self, reason, value):
        self.assertEqual(module_error(value), reason)

    def test_form_before_kind(self):
        self.check(("form",), ((None,), ()))
        self.check(("form",), ((None,) * 9, (("main", ("x",), BLOCKS),)))

    def test_kind_before_function(self):
        self.check(("kind", 0), ((None,), (None,)))
        self.check(("kind", 1), ((("a", ()), ("a", ())), (("main", (), ()),)))

    def test_function_before_block(self):
        self.check(("function", 1), ((), (("abc", (), (None,)), ("main", (), ()))))
        self.check(("function", 1), ((), (("main", (), (None,)), ("abc", ("x",), BLOCKS))))

    def test_block_before_instruction(self):
        self.check(("block", 0, 1), one_function(("a", (), (None,), None), ("a", (), (), ("give", "x"))))
        self.check(("block", 1, 0), ((), (("abc", (), (("a", (), (), None),)), ("main", (), (None,)))))

    def test_instruction_before_main(self):
        self.check(("instruction", 0, 0, 0), ((), (("abc", ("x",), (("a", (), (), ("give",)),)),)))

    def test_main_before_size(self):
        self.check(("main",), ((), (("abc", *samples.sizes(121)[1][0][1:]),)))

    def test_size_before_name(self):
        value = samples.sizes(121)
        self.check(("size",), replaced(value, (1, 0, 2, 0, 2, 0), ("new", "r", "none")))
        self.check(("size",), replaced(value, (1, 0, 2, 0, 3), ("go", "nowhere", ())))

    def test_name_before_twice(self):
        self.check(("name", 0, 0, 0), one_block(("new", "r", "none"), parameters=("x", "x")))
        self.check(("name", 0, 0, 1), one_block(("none", "x"), ("new", "r", "none")))

    def test_twice_before_use(self):
        self.check(("twice", 0, "x"), one_block(("show", "z"), parameters=("x", "x")))
        self.check(("twice", 0, "r"), one_block(("show", "r"), ("none", "r"), ("none", "r")))


class WrongValues(unittest.TestCase):
    def test_the_whole_value(self):
        for value in samples.STRAYS:
            with self.subTest(value):
                self.assertEqual(module_error(value), ("form",))

    def test_a_module_inside_another_value(self):
        for value in ([samples.RICH], (samples.RICH,), {"module": samples.RICH}, (samples.RICH, samples.RICH)):
            expected = ("kind", 0) if value == (samples.RICH, samples.RICH) else ("form",)
            self.assertEqual(module_error(value), expected)

    def reason_at(self, path):
        """Tell the reason for a part of RICH that is of a wrong sort."""
        if len(path) < 2:
            return ("form",)
        if path[0] == 0:
            return ("kind", path[1])
        if len(path) < 4 or path[2] != 2:
            return ("function", path[1])
        if len(path) < 6 and path[4:5] != (3,) or path[4] not in (2, 3):
            return ("block", path[1], path[3])
        instructions = samples.RICH[1][path[1]][2][path[3]][2]
        return ("instruction", path[1], path[3], path[5] if path[4] == 2 else len(instructions))

    def fits(self, path, part, stray):
        """Tell whether a stray value may stand there, or be wrong only by what it contains."""
        if isinstance(part, tuple) and isinstance(stray, tuple):
            holds_any_things = path in ((0,), (1,)) or path[2:] == (2,) or path[4:] == (2,)
            return holds_any_things or all([word in ("num", "r", "give") for word in stray])
        if isinstance(part, int):
            return any([stray is number for number in samples.STRAY_INTEGERS[:5]])
        return False

    def test_in_the_place_of_each_part(self):
        tried = 0
        for path in paths(samples.RICH):
            part = part_at(samples.RICH, path)
            for stray in samples.STRAYS:
                if not self.fits(path, part, stray):
                    with self.subTest(path=path, stray=stray):
                        self.assertEqual(module_error(replaced(samples.RICH, path, stray)), self.reason_at(path))
                    tried += 1
        self.assertGreater(tried, 5000)

    def test_tuples_of_other_things(self):
        for stray in samples.STRAYS:
            if isinstance(stray, tuple) and stray:
                for path, reason in (
                    ((0,), ("kind", 0)),
                    ((1,), ("function", 0)),
                    ((1, 0, 2), ("block", 0, 0)),
                    ((1, 0, 2, 1, 2), ("instruction", 0, 1, 0)),
                    ((1, 1, 2, 0, 2), ("instruction", 1, 0, 0)),
                ):
                    with self.subTest(path=path, stray=stray):
                        self.assertEqual(module_error(replaced(samples.RICH, path, stray)), reason)

    def test_empty_tuples(self):
        for path, reason in (
            ((), ("form",)),
            ((0,), ("name", 0, 0, 9)),
            ((0, 0), ("kind", 0)),
            ((0, 0, 1), ("name", 0, 0, 11)),
            ((0, 1, 1), None),
            ((1,), ("form",)),
            ((1, 0), ("function", 0)),
            ((1, 0, 1), ("use", 0, 0, 18, "x")),
            ((1, 0, 2), ("function", 0)),
            ((1, 0, 2, 0), ("block", 0, 0)),
            ((1, 0, 2, 1, 1), ("name", 0, 0, 18)),
            ((1, 0, 2, 1, 2), ("use", 0, 1, 0, "k")),
            ((1, 0, 2, 1, 2, 0), ("instruction", 0, 1, 0)),
            ((1, 0, 2, 1, 3), ("instruction", 0, 1, 1)),
            ((1, 0, 2, 1, 3, 3), ("name", 0, 1, 1)),
            ((1, 0, 2, 1, 3, 5), None),
            ((1, 0, 2, 0, 2, 15, 3), ("name", 0, 0, 15)),
            ((1, 0, 2, 0, 2, 16, 3), None),
        ):
            with self.subTest(path=path):
                self.assertEqual(module_error(replaced(samples.RICH, path, ())), reason)

    def test_lists_in_the_place_of_each_tuple(self):
        for path in paths(samples.RICH):
            part = part_at(samples.RICH, path)
            if isinstance(part, tuple):
                with self.subTest(path=path):
                    self.assertEqual(module_error(replaced(samples.RICH, path, list(part))), self.reason_at(path))


if __name__ == "__main__":
    unittest.main()

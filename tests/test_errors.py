"""Promise 4: the error classes and their fields."""

import inspect
import itertools
import unittest

from clobberwalk import errors

FIELDS = {
    "InvalidModule": (ValueError, ("reason",)),
    "InvalidInputs": (ValueError, ("value",)),
    "InvalidNumber": (ValueError, ("value",)),
    "InvalidThings": (ValueError, ("value",)),
    "InvalidView": (ValueError, ("value",)),
    "InvalidStep": (ValueError, ("value",)),
    "InvalidEdit": (ValueError, ("index",)),
    "InvalidRow": (ValueError, ("value",)),
    "WrongInputs": (ValueError, ()),
    "ParseError": (ValueError, ("line", "word")),
    "UnknownName": (KeyError, ("value",)),
    "UnknownPlace": (KeyError, ("value",)),
    "WrongPlace": (LookupError, ("place",)),
    "Broken": (RuntimeError, ("index",)),
}


class Fields(unittest.TestCase):
    def check_each(self, check):
        for name, (base, fields) in FIELDS.items():
            with self.subTest(name):
                check(getattr(errors, name), base, fields)

    def check_fields(self, error, fields, objects):
        self.assertEqual(list(vars(error)), list(fields))
        for field, thing in zip(fields, objects):
            self.assertIs(getattr(error, field), thing)

    def test_no_other_classes(self):
        self.assertEqual({name for name in vars(errors) if not name.startswith("_")}, set(FIELDS))

    def test_the_direct_base_class(self):
        def check(error, base, _):
            self.assertEqual(error.__bases__, (base,))
        self.check_each(check)

    def test_defined_in_their_file_with_these_arguments(self):
        def check(error, _, fields):
            self.assertEqual(error.__module__, "clobberwalk.errors")
            self.assertEqual(tuple(inspect.signature(error).parameters), fields)
        self.check_each(check)

    def test_by_position(self):
        def check(error, _, fields):
            for objects in (([], {}), (object(), object()), (True, 1), ("", None)):
                self.check_fields(error(*objects[:len(fields)]), fields, objects)
        self.check_each(check)

    def test_by_name_in_any_order(self):
        def check(error, _, fields):
            objects = ([], {})
            for order in itertools.permutations(zip(fields, objects)):
                self.check_fields(error(**dict(order)), fields, objects)
        self.check_each(check)

    def test_by_position_and_by_name(self):
        line, word = [], {}
        self.check_fields(errors.ParseError(line, word=word), ("line", "word"), (line, word))

    def test_too_few_too_many_and_other_names(self):
        def check(error, _, fields):
            with self.assertRaises(TypeError):
                error(*fields, 1)
            with self.assertRaises(TypeError):
                error(other=1)
            if fields:
                with self.assertRaises(TypeError):
                    error(*fields[1:])
        self.check_each(check)

    def test_without_a_field(self):
        self.assertEqual(vars(errors.WrongInputs()), {})

    def test_raised_and_caught_by_the_base_class(self):
        def check(error, base, fields):
            with self.assertRaises(base) as caught:
                raise error(*fields)
            self.assertEqual(vars(caught.exception), dict(zip(fields, fields)))
        self.check_each(check)


if __name__ == "__main__":
    unittest.main()

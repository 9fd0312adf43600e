"""Promise 5: the class values of Limits."""

import unittest

from clobberwalk.limits import Limits

NUMBERS = {
    "MOST_KINDS": 8,
    "MOST_FIELDS": 6,
    "MOST_FUNCTIONS": 8,
    "MOST_PARAMETERS": 4,
    "MOST_BLOCKS": 12,
    "MOST_BLOCK_PARAMETERS": 6,
    "MOST_INSTRUCTIONS": 40,
    "MOST_PLACES": 120,
    "MOST_ELEMENTS": 60,
    "MOST_STEPS": 20000,
    "MOST_CALLS": 40,
}


class Numbers(unittest.TestCase):
    def test_each_number_off_the_class_and_off_an_object(self):
        for name, number in NUMBERS.items():
            with self.subTest(name):
                self.assertEqual(vars(Limits)[name], number)
                self.assertEqual(getattr(Limits(), name), number)

    def test_no_other_values(self):
        self.assertEqual({name for name in vars(Limits) if not name.startswith("_")}, set(NUMBERS))

    def test_defined_in_its_file(self):
        self.assertEqual(Limits.__module__, "clobberwalk.limits")


if __name__ == "__main__":
    unittest.main()

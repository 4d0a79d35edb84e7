"""Errors: the classes, their fields, and what they are subclasses of."""

import unittest

from askedfor import errors
from askedfor.errors import Malformed, Mismatched, Refused, Twice, Unbounded, Unhandled, Unknown

# Each class, its field, and an argument for it.
CLASSES = (
    (Malformed, "at", 7),
    (Unknown, "name", "x"),
    (Twice, "name", "get"),
    (Mismatched, "number", 3),
    (Unhandled, "name", "put"),
    (Unbounded, "name", "depth"),
)


class ErrorsTest(unittest.TestCase):
    def test_refused_is_a_value_error(self):
        self.assertEqual(Refused.__bases__, (ValueError,))

    def test_each_is_a_direct_subclass(self):
        for made, _, _ in CLASSES:
            with self.subTest(made.__name__):
                self.assertEqual(made.__bases__, (Refused,))

    def test_field(self):
        for made, field, value in CLASSES:
            with self.subTest(made.__name__):
                self.assertEqual(vars(made(value)), {field: value})

    def test_the_field_may_be_zero(self):
        self.assertEqual(Malformed(0).at, 0)
        self.assertEqual(Mismatched(0).number, 0)

    def test_the_argument_by_its_name(self):
        for made, field, value in CLASSES:
            with self.subTest(made.__name__):
                self.assertEqual(getattr(made(**{field: value}), field), value)

    def test_exactly_one_argument(self):
        for made, _, value in CLASSES:
            with self.subTest(made.__name__):
                self.assertRaises(TypeError, made)
                self.assertRaises(TypeError, made, value, value)

    def test_instance_of_no_sibling(self):
        for made, _, value in CLASSES:
            for other, _, _ in CLASSES:
                with self.subTest(made.__name__, other=other.__name__):
                    self.assertEqual(isinstance(made(value), other), made == other)

    def test_raised_and_caught(self):
        for made, field, value in CLASSES:
            for caught in (made, Refused, ValueError):
                with self.subTest(made.__name__, caught=caught.__name__):
                    with self.assertRaises(caught) as held:
                        raise made(value)
                    self.assertEqual(getattr(held.exception, field), value)

    def test_each_is_defined_here_with_its_own_constructor(self):
        for made, _, _ in CLASSES:
            with self.subTest(made.__name__):
                self.assertIs(getattr(errors, made.__name__), made)
                self.assertEqual(made.__module__, "askedfor.errors")
                self.assertIn("__init__", vars(made))


if __name__ == "__main__":
    unittest.main()

"""The error classes: the section tickrings/errors.py of the interface."""

import unittest

from tickrings import errors

FIELDS = [
    ("ConfigError", "setting", "queue"),
    ("RingError", "held", 3),
    ("PoolError", "buffer", -1),
    ("BudgetError", "which", 0),
    ("StreamFull", "space", 16),
    ("CommandError", "line", 1),
]


class ErrorsTest(unittest.TestCase):
    def test_the_base_class_is_a_value_error(self):
        self.assertEqual(errors.TickringsError.__bases__, (ValueError,))

    def test_every_class_derives_from_the_base_class(self):
        for name, _, _ in FIELDS:
            self.assertEqual(getattr(errors, name).__bases__, (errors.TickringsError,), name)

    def test_every_class_is_defined_in_its_file(self):
        for name in ["TickringsError"] + [row[0] for row in FIELDS]:
            self.assertEqual(getattr(errors, name).__module__, "tickrings.errors", name)

    def test_every_class_keeps_what_it_was_created_with_in_its_field(self):
        for name, field, value in FIELDS:
            error = getattr(errors, name)(value)
            self.assertEqual(getattr(error, field), value, name)

    def test_the_field_belongs_to_the_object(self):
        for name, field, value in FIELDS:
            made = getattr(errors, name)
            first, second = made(value), made("other")
            self.assertEqual([getattr(first, field), getattr(second, field)], [value, "other"], name)

    def test_every_error_is_caught_as_the_base_class_and_as_itself(self):
        for name, field, value in FIELDS:
            made = getattr(errors, name)
            for caught in (made, errors.TickringsError, ValueError):
                with self.assertRaises(caught) as held:
                    raise made(value)
                self.assertEqual(getattr(held.exception, field), value, name)

    def test_an_error_is_not_caught_as_another_one(self):
        for name, _, value in FIELDS:
            for other, _, _ in FIELDS:
                found = isinstance(getattr(errors, name)(value), getattr(errors, other))
                self.assertEqual(found, name == other, (name, other))


if __name__ == "__main__":
    unittest.main()

"""The errors: leakyqueue/errors.py."""

import unittest

from leakyqueue import errors
from samples import CheckedCase, values_of_other_kinds

# Name, field and direct base class of each error, as the interface lists them.
LISTED = [
    ("InvalidWord", "value", "LeakError"),
    ("InvalidProgram", "value", "LeakError"),
    ("InvalidCore", "value", "LeakError"),
    ("InvalidEffect", "index", "LeakError"),
    ("InvalidExchange", "value", "LeakError"),
    ("InvalidNumber", "value", "LeakError"),
    ("InvalidSet", "index", "LeakError"),
    ("InvalidNetwork", "name", "LeakError"),
    ("InvalidPrograms", "index", "LeakError"),
    ("InvalidObservations", "index", "LeakError"),
    ("ParseError", "value", "LeakError"),
    ("InvalidCommand", "value", "LeakError"),
    ("InvalidPosition", "value", "IndexError"),
    ("Missing", "item", "LookupError"),
    ("UnknownName", "name", "KeyError"),
    ("LimitExceeded", "limit", "OverflowError"),
    ("Failed", "index", "RuntimeError"),
    ("NothingToUndo", "count", "RuntimeError"),
]

BASES = {
    "LeakError": errors.LeakError,
    "IndexError": IndexError,
    "LookupError": LookupError,
    "KeyError": KeyError,
    "OverflowError": OverflowError,
    "RuntimeError": RuntimeError,
}


def listed_errors():
    return [(getattr(errors, name), field, BASES[base]) for name, field, base in LISTED]


def any_values():
    return values_of_other_kinds() + ["", "a", "a b\n", "Z" * 4000, object(), errors.Missing("a"), errors.Missing]


class Fields(CheckedCase):
    def test_by_position(self):
        for error, field, base in listed_errors():
            for value in any_values():
                with self.subTest(error=error.__name__, value=value):
                    self.assertIs(getattr(error(value), field), value)

    def test_by_name(self):
        for error, field, base in listed_errors():
            for value in any_values():
                with self.subTest(error=error.__name__, value=value):
                    self.assertIs(getattr(error(**{field: value}), field), value)

    def test_raised_and_caught(self):
        for error, field, base in listed_errors():
            for value in any_values():
                with self.subTest(error=error.__name__, value=value):
                    with self.assertRaises(base) as caught:
                        raise error(value)
                    self.assertIs(getattr(caught.exception, field), value)

    def test_a_list_is_kept_and_not_copied(self):
        for error, field, base in listed_errors():
            value = [["a"], {"b": 1}]
            raised = error(value)
            value.append("c")
            self.assertEqual(getattr(raised, field), [["a"], {"b": 1}, "c"])

    def test_each_object_has_its_own_field(self):
        for error, field, base in listed_errors():
            first, second = error("a"), error("b")
            self.assertEqual([getattr(first, field), getattr(second, field)], ["a", "b"])

    def test_the_field_is_required_and_the_only_one(self):
        for error, field, base in listed_errors():
            with self.assertRaises(TypeError):
                error()
            with self.assertRaises(TypeError):
                error("a", "b")


class Classes(unittest.TestCase):
    def test_direct_base_classes(self):
        self.assertEqual(errors.LeakError.__bases__, (ValueError,))
        for error, field, base in listed_errors():
            with self.subTest(error=error.__name__):
                self.assertEqual(error.__bases__, (base,))

    def test_names(self):
        for name, field, base in LISTED:
            self.assertEqual(getattr(errors, name).__name__, name)

    def test_no_error_is_another_one(self):
        for error, field, base in listed_errors():
            for other, other_field, other_base in listed_errors():
                with self.subTest(error=error.__name__, other=other.__name__):
                    self.assertEqual(isinstance(error("a"), other), error.__name__ == other.__name__)

    def test_only_the_listed_ones_are_leak_errors(self):
        for error, field, base in listed_errors():
            with self.subTest(error=error.__name__):
                self.assertEqual(isinstance(error("a"), errors.LeakError), base == errors.LeakError)
                self.assertEqual(isinstance(error("a"), ValueError), base == errors.LeakError)


if __name__ == "__main__":
    unittest.main()

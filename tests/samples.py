"""Inputs and assertions that several test files share."""

import copy
import itertools
import unittest

ITEM_LETTERS = ["a", "b", "c", "d", "e", "f", "g", "h"]
TAKE_LETTERS = ["A", "B", "C", "D", "E", "F", "G", "H"]
LETTERS_BESIDE = ["`", "i", "z", "@", "I", "Z"]
OTHER_CHARACTERS = [" ", "\n", "\t", "0", "1", "-", "_", "|", "{", "~", "!", "."]


def values_of_other_kinds():
    """New values that are no strings, among them some that contain words."""
    return [
        None, True, False, 0, 1, -1, 97, 10 ** 199,
        [], ["a"], ["a", "B"], ["ab", ["c"]], (), ("a",), ("a", "b"),
        {}, {"a": "b"}, {"a": ["b"]}, {"a"}, b"", b"a", b"ab",
    ]


def with_character(text, character):
    """The text with the character at the front, inside and at the end."""
    middle = len(text) // 2
    return [character + text, text[:middle] + character + text[middle:], text + character]


def strings_with_others(text, characters):
    """Strings that are no words or programs only because of one character."""
    strings = list(characters)
    for character in characters:
        strings += with_character(text, character)
    return strings


def strings_of(letters, longest):
    """All strings of these letters up to this length."""
    for length in range(longest + 1):
        for chosen in itertools.product(letters, repeat=length):
            yield "".join(chosen)


class CheckedCase(unittest.TestCase):
    """Assertions about errors that keep their arguments."""

    def assert_error(self, error, field, expected, call, *arguments, **named):
        """The call raises exactly this error, its field is this very object, and no argument changes."""
        before = copy.deepcopy((arguments, named))
        with self.assertRaises(error) as caught:
            call(*arguments, **named)
        self.assertEqual(caught.exception.__class__, error)
        self.assertIs(getattr(caught.exception, field), expected)
        self.assertEqual((arguments, named), before)

    def assert_same(self, expected, value):
        """The value is equal and of the same kind: True is not 1."""
        self.assertEqual(value, expected)
        self.assertIs(value.__class__, expected.__class__)

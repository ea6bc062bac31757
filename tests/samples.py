"""Inputs and assertions that several test files share."""

import copy
import itertools
import unittest

from leakyqueue.effects import Effect
from leakyqueue.errors import LimitExceeded
from leakyqueue.queues import LeakyQueue, Queue

ITEM_LETTERS = ["a", "b", "c", "d", "e", "f", "g", "h"]
TAKE_LETTERS = ["A", "B", "C", "D", "E", "F", "G", "H"]
LETTERS_BESIDE = ["`", "i", "z", "@", "I", "Z"]
ALL_STEPS = "".join(ITEM_LETTERS + TAKE_LETTERS)
OTHER_CHARACTERS = [" ", "\n", "\t", "0", "1", "-", "_", "|", "{", "~", "!", "."]


def values_of_other_kinds():
    """New values that are no strings, among them some that contain words."""
    return [
        None, True, False, 0, 1, -1, 97, 10 ** 199,
        [], ["a"], ["a", "B"], ["ab", ["c"]], (), ("a",), ("a", "b"),
        {}, {"a": "b"}, {"a": ["b"]}, {"a"}, b"", b"a", b"ab",
        Queue("a"), LeakyQueue("a"), Effect("a", "a", 0),
    ]


def with_character(text, character):
    """The text with the character at the front, inside and at the end."""
    middle = len(text) // 2
    return [character + text, text[:middle] + character + text[middle:], text + character]


def strings_with_others(text, characters):
    """Strings that are no words or programs only because of one character."""
    strings = list(characters)
    for character in characters:
        strings += with_character(text, character)
    return strings


def wrong_words():
    """Values that are no words."""
    characters = LETTERS_BESIDE + OTHER_CHARACTERS + TAKE_LETTERS
    strings = strings_with_others("abcdefgh", characters) + ["a" * 401, "abcdefgh" * 50 + "a", "a" * 4000]
    return strings + values_of_other_kinds()


def wrong_programs():
    """Values that are no programs."""
    strings = strings_with_others("abCDefGH", LETTERS_BESIDE + OTHER_CHARACTERS)
    strings += ["a" * 401, "A" * 401, ALL_STEPS * 25 + "a", "A" * 4000]
    return strings + values_of_other_kinds()


def few_wrong_words():
    """One value of each form that is no word, for where the checked value is one of several."""
    return ["A", "ab ", "a" * 401, None, 0, True, ["a"], ("a",), {"a": "a"}, b"a", Queue("a")]


def few_wrong_programs():
    """One value of each form that is no program, for where the checked value is one of several."""
    return ["i", "aB ", "a" * 401, None, 0, True, ["a"], ("a",), {"a": "a"}, b"a", Effect("", "a", 0)]


def no_numbers():
    """Values that are no integers."""
    return [value for value in values_of_other_kinds() if value.__class__ is not int] + ["", "0", "1", [0], [1], (1,)]


def random_string(source, letters, longest):
    """A string of these letters, of any length up to this one."""
    return "".join([source.choice(letters) for k in range(source.randint(0, longest))])


def strings_of(letters, longest):
    """All strings of these letters up to this length."""
    for length in range(longest + 1):
        for chosen in itertools.product(letters, repeat=length):
            yield "".join(chosen)


def order_of_word(word):
    """What orders words: first the length, then the alphabet."""
    return (len(word), word)


class CheckedCase(unittest.TestCase):
    """Assertions about errors that keep their arguments."""

    def assert_error(self, error, field, expected, call, *arguments, **named):
        """The call raises exactly this error, its field is this very object, and no argument changes."""
        before = copy.deepcopy((arguments, named))
        with self.assertRaises(error) as caught:
            call(*arguments, **named)
        self.assertEqual(caught.exception.__class__, error)
        self.assertIs(getattr(caught.exception, field), expected)
        self.assertEqual((arguments, named), before)

    def assert_limit(self, limit, call, *arguments):
        """The call raises LimitExceeded with this limit, and no argument changes."""
        before = copy.deepcopy(arguments)
        with self.assertRaises(LimitExceeded) as caught:
            call(*arguments)
        self.assert_same(limit, caught.exception.limit)
        self.assertEqual(arguments, before)

    def assert_same(self, expected, value):
        """The value is equal and of the same kind: True is not 1."""
        self.assertEqual(value, expected)
        self.assertIs(value.__class__, expected.__class__)

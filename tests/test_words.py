"""Point 1, words: leakyqueue/words.py."""

import itertools
import unittest

from leakyqueue.errors import InvalidWord
from leakyqueue.words import ITEMS, embedding, is_subsequence, is_word, prefix_length
from samples import (
    ITEM_LETTERS, LETTERS_BESIDE, OTHER_CHARACTERS, TAKE_LETTERS, CheckedCase,
    strings_of, wrong_words,
)

FUNCTIONS = [is_subsequence, embedding, prefix_length]


def first_choice(part, word):
    """The first choice of positions, of all of them, that spells part."""
    for positions in itertools.combinations(range(len(word)), len(part)):
        if "".join([word[position] for position in positions]) == part:
            return list(positions)
    return None


def longest_prefix(part, word):
    return max([length for length in range(len(part) + 1) if first_choice(part[:length], word) is not None])


def pairs_of_short_words():
    for part in strings_of("ab", 4):
        for word in strings_of("ab", 6):
            yield part, word
    for part in strings_of("cfh", 3):
        for word in strings_of("cfh", 4):
            yield part, word


class Items(CheckedCase):
    def test_items(self):
        self.assertEqual(ITEMS, "abcdefgh")


class IsWord(CheckedCase):
    def test_words(self):
        for value in ["", "ab", "hgfedcba", "aaaa"] + ITEM_LETTERS:
            with self.subTest(value=value):
                self.assertIs(is_word(value), True)

    def test_longest_word(self):
        self.assertIs(is_word("a" * 400), True)
        self.assertIs(is_word("abcdefgh" * 50), True)
        self.assertIs(is_word("a" * 401), False)
        self.assertIs(is_word("abcdefgh" * 50 + "h"), False)

    def test_wrong_values(self):
        for value in wrong_words():
            with self.subTest(value=value):
                self.assertIs(is_word(value), False)

    def test_wrong_character_in_a_long_string(self):
        for character in LETTERS_BESIDE + OTHER_CHARACTERS + TAKE_LETTERS:
            for position in [0, 1, 200, 398, 399]:
                text = "a" * position + character + "h" * (399 - position)
                self.assertIs(is_word(text), False)

    def test_by_name(self):
        self.assertIs(is_word(value="ab"), True)
        self.assertIs(is_word(value=None), False)


class Subsequences(CheckedCase):
    def test_document_example(self):
        self.assertEqual(
            [embedding('ab', 'cabab'), embedding('ba', 'ab'), prefix_length('abc', 'cab')],
            [[1, 2], None, 2],
        )

    def test_all_choices_of_positions(self):
        for part, word in pairs_of_short_words():
            expected = first_choice(part, word)
            with self.subTest(part=part, word=word):
                self.assertEqual(embedding(part, word), expected)
                self.assertIs(is_subsequence(part, word), expected is not None)
                self.assert_same(longest_prefix(part, word), prefix_length(part, word))

    def test_empty_words(self):
        self.assertEqual([embedding("", ""), embedding("", "ab"), embedding("ab", "")], [[], [], None])
        self.assertEqual([prefix_length("", ""), prefix_length("", "ab"), prefix_length("ab", "")], [0, 0, 0])
        self.assertIs(is_subsequence("", ""), True)
        self.assertIs(is_subsequence("", "ab"), True)
        self.assertIs(is_subsequence("ab", ""), False)

    def test_longest_words(self):
        word = "abcdefgh" * 50
        self.assertEqual(embedding(word, word), list(range(400)))
        self.assertEqual(embedding("h" * 50, word), list(range(7, 400, 8)))
        self.assertIsNone(embedding("h" * 51, word))
        self.assertIs(is_subsequence("h" * 50, word), True)
        self.assertIs(is_subsequence("h" * 51, word), False)
        self.assertEqual(prefix_length("h" * 51, word), 50)
        self.assertEqual(prefix_length("a" * 400, "a" * 399), 399)

    def test_an_item_is_used_once(self):
        self.assertIsNone(embedding("aa", "a"))
        self.assertEqual(embedding("aa", "aba"), [0, 2])
        self.assertEqual(prefix_length("aaa", "aba"), 2)

    def test_the_prefix_does_not_skip_an_item(self):
        self.assertEqual(prefix_length("cab", "abab"), 0)
        self.assertEqual(prefix_length("acb", "ab"), 1)

    def test_by_name(self):
        for function, expected in [(is_subsequence, True), (embedding, [1, 2]), (prefix_length, 2)]:
            self.assertEqual(function(part="ab", word="cab"), expected)
            self.assertEqual(function(word="cab", part="ab"), expected)
            self.assertEqual(function("ab", word="cab"), expected)

    def test_every_list_is_new(self):
        first = embedding("ab", "cab")
        first.append(9)
        self.assertEqual(embedding("ab", "cab"), [1, 2])
        empty = embedding("", "cab")
        empty.append(9)
        self.assertEqual(embedding("", "cab"), [])


class WrongWords(CheckedCase):
    def test_wrong_part(self):
        for function in FUNCTIONS:
            for value in wrong_words():
                with self.subTest(function=function.__name__, value=value):
                    self.assert_error(InvalidWord, "value", value, function, value, "ab")
                    self.assert_error(InvalidWord, "value", value, function, part=value, word="ab")

    def test_wrong_word(self):
        for function in FUNCTIONS:
            for value in wrong_words():
                with self.subTest(function=function.__name__, value=value):
                    self.assert_error(InvalidWord, "value", value, function, "ab", value)
                    self.assert_error(InvalidWord, "value", value, function, "", value)
                    self.assert_error(InvalidWord, "value", value, function, part="ab", word=value)

    def test_both_wrong(self):
        for function in FUNCTIONS:
            for value in wrong_words():
                with self.subTest(function=function.__name__, value=value):
                    self.assert_error(InvalidWord, "value", value, function, value, "other")
                    self.assert_error(InvalidWord, "value", value, function, word=["other"], part=value)


if __name__ == "__main__":
    unittest.main()

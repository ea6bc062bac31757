"""Point 7, separation: leakyqueue/separation.py."""

import random
import unittest

from leakyqueue.errors import InvalidProgram
from leakyqueue.separation import check_separation, equivalent, separating_queue
from plain import merges, plain_result, plain_values
from samples import (
    ALL_STEPS, CheckedCase, few_wrong_programs, random_string, strings_of, values_of_other_kinds, wrong_programs,
    wrong_words,
)

FUNCTIONS = [equivalent, separating_queue]


def results_on(program, words):
    return [plain_result(program, word) for word in words]


def first_difference(words, results, others):
    """The first word with another result, or None."""
    for word, result, other in zip(words, results, others):
        if result != other:
            return word
    return None


def changed(source, program):
    """A program with another order of some steps, and sometimes another step."""
    steps = list(program)
    for count in range(source.randint(0, 3)):
        if len(steps) > 1:
            at = source.randrange(len(steps) - 1)
            steps[at], steps[at + 1] = steps[at + 1], steps[at]
    if source.randrange(3) == 0:
        steps.insert(source.randint(0, len(steps)), source.choice("abAB"))
    return "".join(steps)


class Examples(unittest.TestCase):
    def test_document_example(self):
        self.assertEqual(
            [equivalent('aA', ''), separating_queue('aA', ''), separating_queue('Aa', 'aA'), separating_queue('AB', 'BA')],
            [False, 'b', '', 'ab'],
        )


class AllWords(CheckedCase):
    """The first of all words in order, found by trying them all."""

    def assert_first(self, first, second, words, results, others):
        expected = first_difference(words, results, others)
        separating = separating_queue(first, second)
        if expected is None and separating is not None:
            # The words that were tried are too short to separate these programs.
            self.assertGreater(len(separating), len(words[-1]))
            self.assertNotEqual(plain_result(first, separating), plain_result(second, separating))
        else:
            self.assertEqual(separating, expected)
        self.assertIs(equivalent(first, second), separating is None)
        self.assertIs(equivalent(first, second), plain_values(first) == plain_values(second))
        self.assertIs(check_separation(first, second, separating), separating is not None)

    def test_all_short_programs(self):
        words = list(strings_of("abc", 4))
        programs = list(strings_of("abAB", 3))
        results = {program: results_on(program, words) for program in programs}
        for first in programs:
            for second in programs:
                self.assert_first(first, second, words, results[first], results[second])

    def test_all_items(self):
        words = list(strings_of("abcdefgh", 3))
        for first, second in [("aA", ""), ("bB", ""), ("aAbB", ""), ("bBaA", "aA"), ("cCaA", "aAcC"), ("hH", "gG"),
                              ("hHgG", "gGhH"), ("aA", "bB"), ("abAB", "aAbB"), ("abB", "bB"), ("Aa", "Aaa"), ("H", "G")]:
            self.assert_first(first, second, words, results_on(first, words), results_on(second, words))

    def test_like_programs(self):
        words = list(strings_of("abc", 7))
        source = random.Random(13)
        for count in range(250):
            first = random_string(source, source.choice(["aA", "abAB", "aabbAB", "abcABC"]), 9)
            second = changed(source, first)
            self.assert_first(first, second, words, results_on(first, words), results_on(second, words))

    def test_the_same_takes_and_puts(self):
        words = list(strings_of("abc", 5))
        for taken, given in [("ab", "ab"), ("aab", "ba"), ("bab", "ab"), ("aaa", "aa"), ("abc", "cab")]:
            programs = list(merges(taken, given))
            results = {program: results_on(program, words) for program in programs}
            for first in programs:
                for second in programs:
                    self.assert_first(first, second, words, results[first], results[second])


class Cores(CheckedCase):
    def test_another_core(self):
        """With the same takes and puts, the least queue of the smaller core separates."""
        for taken, given in [("abab", "bb"), ("aaaa", "aaa"), ("abc", "abc"), ("cba", "cba")]:
            for first in merges(taken, given):
                for second in merges(taken, given):
                    cores = sorted([plain_values(first)[2], plain_values(second)[2]])
                    expected = None if cores[0] == cores[1] else taken[:cores[0]]
                    self.assertEqual(separating_queue(first, second), expected)


class LongPrograms(CheckedCase):
    def assert_separated(self, first, second, queue):
        self.assertEqual(separating_queue(first, second), queue)
        self.assertEqual(separating_queue(second, first), queue)
        self.assertIs(equivalent(first, second), False)
        self.assertNotEqual(plain_result(first, queue), plain_result(second, queue))
        self.assertIs(check_separation(first, second, queue), True)

    def test_many_takes(self):
        self.assert_separated("A" * 400, "A" * 399, "a" * 399)
        self.assert_separated("A" * 400, "A" * 399 + "B", "a" * 400)
        self.assert_separated("A" * 399 + "C", "A" * 399 + "B", "a" * 399 + "b")
        self.assert_separated("B" * 400, "A" * 400, "a" * 400)
        self.assert_separated("A" * 400, "a" * 400, "")
        self.assert_separated("A" * 200 + "a" * 200, "A" * 199 + "aA" + "a" * 199, "a" * 199)

    def test_many_queues_without_a_difference(self):
        first, second = "a" * 199 + "c" + "A" * 199 + "C", "b" * 199 + "c" + "B" * 199 + "C"
        self.assert_separated(first, second, "a" * 199 + "c")
        # Short ones of the same form, against all words.
        words = list(strings_of("abc", 4))
        short, other = "a" * 3 + "c" + "A" * 3 + "C", "b" * 3 + "c" + "B" * 3 + "C"
        found = first_difference(words, results_on(short, words), results_on(other, words))
        self.assertEqual([separating_queue(short, other), found], ["aaac", "aaac"])

    def test_all_takes_served_by_puts(self):
        self.assert_separated("a" * 200 + "A" * 200, "", "b")
        self.assert_separated("a" * 200 + "A" * 200, "a" * 199 + "A" * 199, "a" * 199 + "b")
        self.assert_separated("ab" * 100 + "AB" * 100, "", "a")

    def test_results_of_more_than_400_items(self):
        self.assert_separated("a" * 400, "a" * 399 + "b", "")
        first, second = "B" + "a" * 399, "B" + "a" * 398 + "b"
        self.assert_separated(first, second, "b")
        self.assertIs(check_separation(first, second, "b" * 400), True)
        self.assertIs(check_separation("a" * 400, "a" * 399 + "b", "a" * 400), True)
        self.assertIs(check_separation("a" * 400, "a" * 400, "a" * 400), False)
        self.assertIs(check_separation("aA", "", "a" * 400), False)
        self.assertIs(check_separation("aA" + "b" * 300, "b" * 300, "a" * 400), False)
        self.assertIs(check_separation("aA" + "b" * 300, "b" * 300, "c" * 400), True)

    def test_equivalent_programs(self):
        for first, second in [("a" * 200 + "B" * 200, "B" * 200 + "a" * 200), ("aB" * 200, "Ba" * 200),
                              ("ab" * 100 + "CD" * 100, "aC" + "bD" + "abCD" * 99), ("aA" * 200, "a" * 200 + "A" * 200)]:
            self.assertEqual(plain_values(first), plain_values(second))
            self.assertIs(equivalent(first, second), True)
            self.assertIsNone(separating_queue(first, second))
            for queue in ["", "a" * 400, "b" * 400, "abcd" * 100]:
                self.assertIs(check_separation(first, second, queue), False)

    def test_random_long_programs(self):
        source = random.Random(14)
        for letters in ["aA", "aaA", "abAB", "aabbAB", "abcABC", ALL_STEPS]:
            for count in range(6):
                first = "".join([source.choice(letters) for k in range(400)])
                second = changed(source, first[:399])
                if plain_values(first) == plain_values(second):
                    self.assertIsNone(separating_queue(first, second))
                else:
                    self.assert_separated(first, second, separating_queue(first, second))
                    self.assert_first_letter_by_letter(first, second)

    def assert_first_letter_by_letter(self, first, second):
        """No prefix separates, and no smaller last item does."""
        queue = separating_queue(first, second)
        for length in range(len(queue)):
            self.assertEqual(plain_result(first, queue[:length]), plain_result(second, queue[:length]))
        for item in "abcdefgh":
            if queue and item < queue[-1]:
                other = queue[:-1] + item
                self.assertEqual(plain_result(first, other), plain_result(second, other))


class CheckSeparation(CheckedCase):
    def test_all_short_words(self):
        source = random.Random(15)
        for count in range(200):
            first, second = random_string(source, "abAB", 6), random_string(source, "abAB", 6)
            for queue in strings_of("abc", 3):
                expected = plain_result(first, queue) != plain_result(second, queue)
                self.assertIs(check_separation(first, second, queue), expected)

    def test_values_that_are_no_words(self):
        for value in wrong_words():
            with self.subTest(value=value):
                self.assertIs(check_separation("a", "b", value), False)
                self.assertIs(check_separation("A", "", value), False)
                self.assertIs(check_separation("", "", value), False)

    def test_by_name(self):
        self.assertIs(check_separation(queue="b", second="", first="aA"), True)
        self.assertIs(check_separation(queue="a", second="", first="aA"), False)


class Arguments(CheckedCase):
    def test_by_name(self):
        self.assertIs(equivalent(second="bA", first="Ab"), True)
        self.assertEqual(separating_queue(second="BA", first="AB"), "ab")

    def test_wrong_programs(self):
        for value in wrong_programs():
            with self.subTest(value=value):
                for function in FUNCTIONS:
                    self.assert_error(InvalidProgram, "value", value, function, value, "a")
                    self.assert_error(InvalidProgram, "value", value, function, "a", value)
                    self.assert_error(InvalidProgram, "value", value, function, second=value, first="")
                self.assert_error(InvalidProgram, "value", value, check_separation, value, "a", "b")
                self.assert_error(InvalidProgram, "value", value, check_separation, "a", value, "b")

    def test_the_leftmost_wrong_program(self):
        for value in few_wrong_programs():
            for function in FUNCTIONS:
                self.assert_error(InvalidProgram, "value", value, function, value, "i")
                self.assert_error(InvalidProgram, "value", value, function, second=["i"], first=value)
            for queue in values_of_other_kinds() + ["i"]:
                self.assert_error(InvalidProgram, "value", value, check_separation, value, "i", queue)
                self.assert_error(InvalidProgram, "value", value, check_separation, "a", value, queue)


if __name__ == "__main__":
    unittest.main()

"""Point 13, the queue without losses: leakyqueue/reliable.py."""

import random
import unittest

from leakyqueue.errors import Failed, InvalidProgram, InvalidWord
from leakyqueue.queues import Queue
from leakyqueue.reliable import first_difference, reliable_result
from leakyqueue.results import best_result
from plain import plain_result
from samples import (
    ALL_STEPS, CheckedCase, few_wrong_programs, few_wrong_words, random_string, strings_of, wrong_programs, wrong_words,
)


def plain_reliable(program, queue):
    """The word after the program, of any length, item by item, or None."""
    items = list(queue)
    for step in program:
        if step in "abcdefgh":
            items.append(step)
        elif items and items[0] == step.lower():
            del items[0]
        else:
            return None
    return "".join(items)


def plain_difference(program, words):
    """The first of these words on which the results differ."""
    for word in words:
        if plain_reliable(program, word) != plain_result(program, word):
            return word
    return None


def fitting_queue(source, program, longest):
    """A queue on which the program often succeeds without losses."""
    taken = "".join([step.lower() for step in program if step.isupper()])
    return taken[:source.randint(0, len(taken))] + random_string(source, "ab", longest)


class Examples(unittest.TestCase):
    def test_document_example(self):
        self.assertEqual(
            [reliable_result('Ab', 'ac'), reliable_result('Ab', 'ca'), first_difference('A'), first_difference('abB')],
            ['cb', None, 'ba', ''],
        )


class Results(CheckedCase):
    def test_all_short_programs_and_queues(self):
        for program in strings_of("abAB", 4):
            for queue in strings_of("ab", 4):
                self.assert_result(program, queue)

    def assert_result(self, program, queue):
        """As in a plain performance, as a queue does it, and the best result where there is one."""
        expected = plain_reliable(program, queue)
        result = reliable_result(program, queue)
        self.assertEqual(result, expected)
        ran = Queue(queue)
        if expected is None:
            self.assertIs(result, None)
            self.assertRaises(Failed, ran.run, program)
        else:
            ran.run(program)
            self.assertEqual(ran.word, expected)
            self.assertEqual(best_result(program, queue), expected)

    def test_drawn_programs(self):
        source = random.Random(80)
        succeeded = 0
        for count in range(600):
            program = random_string(source, source.choice(["aA", "aaA", "abAB", "ABCabc", ALL_STEPS]), 30)
            queue = fitting_queue(source, program, 5)
            self.assert_result(program, queue)
            succeeded += reliable_result(program, queue) is not None
        self.assertGreater(succeeded, 150)

    def test_more_than_400_items_on_the_way(self):
        queue = "a" * 400
        self.assertEqual(reliable_result("bA", queue), "a" * 399 + "b")
        self.assertEqual(reliable_result("b" * 200 + "A" * 200, queue), "a" * 200 + "b" * 200)
        self.assertEqual(reliable_result("b" * 199 + "A" * 200, queue), "a" * 200 + "b" * 199)
        self.assertRaises(Failed, Queue(queue).run, "bA")

    def test_400_and_401_items_in_the_result(self):
        self.assertEqual(reliable_result("a" * 400, ""), "a" * 400)
        self.assertEqual(reliable_result("", "a" * 400), "a" * 400)
        self.assertEqual(reliable_result("b", "a" * 399), "a" * 399 + "b")
        for program, queue in [("b", "a" * 400), ("a" * 400, "a"), ("a" * 400, "a" * 400), ("bbA", "a" * 400)]:
            self.assert_limit(400, reliable_result, program, queue)
        # A program that fails has no long result.
        self.assertIsNone(reliable_result("a" * 399 + "B", "a" * 400))

    def test_edges(self):
        self.assertEqual([reliable_result("", ""), reliable_result("A", ""), reliable_result("aA", "")], ["", None, ""])

    def test_by_name(self):
        self.assertEqual(reliable_result(queue="ac", program="Ab"), "cb")

    def test_wrong_arguments(self):
        for value in wrong_programs():
            with self.subTest(value=value):
                self.assert_error(InvalidProgram, "value", value, reliable_result, value, "a")
                self.assert_error(InvalidProgram, "value", value, first_difference, value)
        for value in wrong_words():
            with self.subTest(value=value):
                self.assert_error(InvalidWord, "value", value, reliable_result, "A", value)
                self.assert_error(InvalidWord, "value", value, reliable_result, "", value)
        for value in few_wrong_programs():
            for word in few_wrong_words():
                self.assert_error(InvalidProgram, "value", value, reliable_result, value, word)


class Differences(CheckedCase):
    def assert_first(self, program, words):
        difference = first_difference(program)
        self.assertEqual(difference, plain_difference(program, words))
        if difference is None:
            self.assertIs(difference, None)
            self.assertEqual(program, program.lower())

    def test_all_short_programs(self):
        words = list(strings_of("abc", 5))
        for program in strings_of("abAB", 4):
            self.assert_first(program, words)

    def test_all_items(self):
        words = list(strings_of("abcdefgh", 3))
        for program in ["H", "GH", "hH", "gHh", "HhG", "hgH", "hgHG", "ghGH", "AH", "HA", "CcB", "aCbA"]:
            self.assert_first(program, words)

    def test_drawn_programs(self):
        words = list(strings_of("abc", 7))
        source = random.Random(81)
        lengths = set()
        for count in range(400):
            program = random_string(source, source.choice(["aA", "aaA", "abAB", "aabbAB", "abcABC"]), 12)
            taken = len([step for step in program if step.isupper()])
            if taken <= 6:
                self.assert_first(program, words)
                lengths.add(None if taken == 0 else len(first_difference(program)))
        self.assertLessEqual({None, 0, 1, 2, 3, 4}, lengths)

    def test_programs_that_take_nothing(self):
        for program in ["", "a", "abc", "h" * 400]:
            self.assertIs(first_difference(program), None)

    def assert_difference(self, program, queue):
        self.assertEqual(first_difference(program), queue)
        self.assertIsNone(plain_reliable(program, queue))
        self.assertIsNotNone(plain_result(program, queue))

    def test_401_items(self):
        self.assert_difference("A" * 400, "a" * 399 + "ba")
        self.assert_difference("B" * 400, "a" + "b" * 400)
        self.assert_difference("AB" * 200, "a" + "ab" * 200)
        self.assert_difference("A" * 399 + "B", "a" * 400 + "b")
        self.assert_difference("H" * 400, "a" + "h" * 400)

    def test_400_steps(self):
        self.assert_difference("a" * 200 + "A" * 200, "b")
        self.assert_difference("b" * 200 + "B" * 200, "a")
        self.assert_difference("ab" * 100 + "B" * 100 + "A" * 100, "b" * 100)
        self.assert_difference("a" * 399 + "B", "ab")
        self.assert_difference("b" + "a" * 398 + "A", "")
        self.assert_difference("Aa" * 200, "ab")
        self.assert_difference("A" * 200 + "a" * 200, "a" * 199 + "ba")

    def test_results_that_are_longer_than_words(self):
        """The results on the queue have more than 400 items, and still differ."""
        self.assert_difference("A" + "b" * 399, "ba")
        self.assert_difference("A" * 10 + "b" * 390, "a" * 9 + "ba")
        self.assert_difference("a" * 390 + "B" * 10, "a" + "b" * 10)

    def test_long_programs_against_near_words(self):
        """For drawn long programs, no word that the least queue needs comes before."""
        source = random.Random(82)
        for letters in ["aA", "abAB", "aabbAB", ALL_STEPS, "abABB"]:
            for count in range(10):
                program = "".join([source.choice(letters) for k in range(source.choice([100, 400]))])
                difference = first_difference(program)
                self.assertNotEqual(plain_reliable(program, difference), plain_result(program, difference))
                for at in range(len(difference)):
                    shorter = difference[:at] + difference[at + 1:]
                    self.assertEqual(plain_reliable(program, shorter), plain_result(program, shorter))
                    for item in "abcdefgh":
                        if item < difference[at]:
                            smaller = difference[:at] + item + difference[at + 1:]
                            self.assertEqual(plain_reliable(program, smaller), plain_result(program, smaller))

    def test_by_name(self):
        self.assertEqual(first_difference(program="A"), "ba")


if __name__ == "__main__":
    unittest.main()

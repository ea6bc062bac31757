"""Point 5, results: leakyqueue/results.py."""

import copy
import itertools
import random
import unittest

from leakyqueue.errors import Failed, InvalidProgram, InvalidWord
from leakyqueue.queues import LeakyQueue
from leakyqueue.results import best_result, check_losses, find_losses, is_possible
from plain import all_results, greatest, plain_result, subsequences
from samples import (
    ALL_STEPS, CheckedCase, few_wrong_programs, few_wrong_words, random_string, strings_of, values_of_other_kinds,
    wrong_programs, wrong_words,
)


def short_cases():
    """Short programs with short queues."""
    for program in strings_of("abAB", 4):
        for queue in strings_of("ab", 3):
            yield program, queue
    source = random.Random(5)
    for count in range(300):
        yield random_string(source, "abcABC", 6), random_string(source, "abc", 5)


def long_cases():
    """Long programs that do not fail soon, with queues."""
    source = random.Random(6)
    for count in range(60):
        letters = source.choice(["aaA", "abcA", "abAB", "abcdABC", ALL_STEPS])
        yield random_string(source, letters, 400), random_string(source, "abcdefgh", 400)


def performed(program, queue, losses):
    """The word after the program with these losses of positions, which must be valid, or None if a take fails."""
    word = list(queue)
    for index, lost in enumerate(losses):
        for position in sorted(lost, reverse=True):
            del word[position]
        if index < len(program):
            step = program[index]
            if step.islower():
                word.append(step)
            elif not word or word.pop(0).upper() != step:
                return None
    return "".join(word)


def words_at_each_time(program, queue, losses):
    """The words from which items are lost, for losses with which no take fails."""
    words = [queue]
    for index in range(len(program)):
        words.append(performed(program[:index + 1], queue, losses[:index + 1] + [[]]))
    return words


class Examples(unittest.TestCase):
    def test_document_example(self):
        self.assertEqual(
            [best_result('aBc', 'bab'), best_result('Ba', 'a'), is_possible('aBc', 'bab', 'aac'),
             is_possible('aBc', 'bab', 'ca')],
            ['abac', None, True, False],
        )

    def test_document_losses(self):
        self.assertEqual(
            [check_losses('B', 'aab', '', [[0, 1], []]), check_losses('B', 'aab', '', [[0], []])],
            [True, False],
        )


class BestResult(CheckedCase):
    def test_every_loss_tried(self):
        for program, queue in short_cases():
            with self.subTest(program=program, queue=queue):
                results = all_results(program, queue)
                best = best_result(program, queue)
                self.assertEqual(best, greatest(results))
                # The possible results are exactly the subsequences of the best one.
                self.assertEqual(results, set() if best is None else subsequences(best))

    def test_a_leaky_queue(self):
        for program, queue in list(short_cases()) + list(long_cases()):
            leaky = LeakyQueue(queue)
            try:
                leaky.run(program)
                expected = leaky.word
            except Failed:
                expected = plain_result(program, queue)
            if expected is None or len(expected) <= 400:
                self.assertEqual(best_result(program, queue), expected)

    def test_plain_performance(self):
        for program, queue in long_cases():
            expected = plain_result(program, queue)
            if expected is not None and len(expected) > 400:
                self.assert_limit(400, best_result, program, queue)
            else:
                self.assertEqual(best_result(program, queue), expected)

    def test_longer_words_on_the_way(self):
        self.assert_same("b" * 200, best_result("b" * 200 + "A" * 200, "a" * 200))
        self.assert_same("a" * 350 + "b" * 50, best_result("b" * 50 + "A" * 50, "a" * 400))
        self.assert_same("b" * 398, best_result("b" * 399 + "B", "a" * 400))
        self.assert_same("a" * 400, best_result("aA", "a" * 400))
        self.assert_same("", best_result("b" * 200 + "B" * 200, "a" * 400))

    def test_a_result_of_400_items_and_one_more(self):
        self.assert_same("a" * 400, best_result("", "a" * 400))
        self.assert_same("a" * 400, best_result("a" * 400, ""))
        self.assert_same("a" * 200 + "b" * 200, best_result("b" * 200, "a" * 200))
        self.assert_limit(400, best_result, "b", "a" * 400)
        self.assert_limit(400, best_result, "b" * 201, "a" * 200)
        self.assert_limit(400, best_result, "b" * 400, "a")
        self.assert_limit(400, best_result, "b" * 201 + "A" * 199, "a" * 399)
        self.assert_limit(400, best_result, "Abb", "a" * 400)
        self.assert_limit(400, best_result, "b" * 400, "a" * 400)
        self.assert_same("a" * 399 + "b", best_result("Ab", "a" * 400))

    def test_failing_programs(self):
        for program, queue in [("A", ""), ("A", "b"), ("ABA", "ab"), ("Aa", "b" * 400), ("b" * 399 + "A", "c" * 400)]:
            self.assertIsNone(best_result(program, queue))

    def test_by_name(self):
        self.assertEqual(best_result(queue="bab", program="aBc"), "abac")
        self.assertEqual(best_result("aBc", queue="bab"), "abac")

    def test_wrong_arguments(self):
        for value in wrong_programs():
            with self.subTest(program=value):
                self.assert_error(InvalidProgram, "value", value, best_result, value, "ab")
                self.assert_error(InvalidProgram, "value", value, best_result, value, "i")
        for value in wrong_words():
            with self.subTest(queue=value):
                self.assert_error(InvalidWord, "value", value, best_result, "aB", value)
                self.assert_error(InvalidWord, "value", value, best_result, queue=value, program="")


class IsPossible(CheckedCase):
    def test_every_loss_tried(self):
        for program, queue in short_cases():
            results = all_results(program, queue)
            for result in list(strings_of("ab", 4)) + sorted(results) + ["c", "ca", "aac"]:
                with self.subTest(program=program, queue=queue, result=result):
                    self.assertIs(is_possible(program, queue, result), result in results)

    def test_a_best_result_of_more_than_400_items(self):
        self.assertIs(is_possible("b" * 400, "a" * 400, "a" * 200 + "b" * 200), True)
        self.assertIs(is_possible("b" * 400, "a" * 400, "a" * 400), True)
        self.assertIs(is_possible("b" * 400, "a" * 400, "b" * 400), True)
        self.assertIs(is_possible("b" * 400, "a" * 400, "ba"), False)
        self.assertIs(is_possible("b" * 399 + "B", "a" * 400, "b" * 398), True)
        self.assertIs(is_possible("b" * 399 + "B", "a" * 400, "b" * 399), False)
        self.assertIs(is_possible("Ab", "a" * 400, "a" * 400), False)

    def test_by_name(self):
        self.assertIs(is_possible(result="aac", queue="bab", program="aBc"), True)


class FindLosses(CheckedCase):
    def assert_valid(self, program, queue, result, losses):
        """The losses are lists of ascending positions with which the program ends with the result."""
        self.assertIs(losses.__class__, list)
        self.assertEqual(len(losses), len(program) + 1)
        words = words_at_each_time(program, queue, losses)
        for lost, word in zip(losses, words):
            self.assertIs(lost.__class__, list)
            self.assertEqual(lost, sorted(set(lost)))
            for position in lost:
                self.assertIs(position.__class__, int)
                self.assertIn(position, range(len(word)))
        self.assertEqual(performed(program, queue, losses), result)
        self.assertIs(check_losses(program, queue, result, losses), True)

    def test_all_short_results(self):
        for program, queue in short_cases():
            results = all_results(program, queue)
            for result in sorted(results) + ["c", "aaa", "bbbb", ""]:
                with self.subTest(program=program, queue=queue, result=result):
                    losses = find_losses(program, queue, result)
                    if result in results:
                        self.assert_valid(program, queue, result, losses)
                    else:
                        self.assertIsNone(losses)

    def test_long_results(self):
        source = random.Random(7)
        found = 0
        for program, queue in long_cases():
            best = plain_result(program, queue)
            if best is None:
                self.assertIsNone(find_losses(program, queue, ""))
                continue
            kept = sorted(source.sample(range(len(best)), min(len(best), source.choice([0, 3, 200, 400]))))
            result = "".join([best[position] for position in kept])
            losses = find_losses(program, queue, result)
            self.assertEqual(performed(program, queue, losses), result)
            self.assertIs(check_losses(program, queue, result, losses), True)
            self.assertEqual(len(losses), len(program) + 1)
            found += 1
        self.assertGreater(found, 10)

    def test_more_than_400_items(self):
        for result in ["", "a" * 400, "b" * 400, "a" * 200 + "b" * 200]:
            self.assert_valid("b" * 400, "a" * 400, result, find_losses("b" * 400, "a" * 400, result))

    def test_the_empty_program(self):
        self.assertEqual(find_losses("", "", ""), [[]])
        self.assertEqual(find_losses("", "ab", "ab"), [[]])
        self.assertEqual(find_losses("", "ab", ""), [[0, 1]])
        self.assertEqual(find_losses("", "ab", "b"), [[0]])
        self.assertIsNone(find_losses("", "ab", "ba"))

    def test_every_list_is_new(self):
        losses = find_losses("aA", "ba", "")
        kept = copy.deepcopy(losses)
        for lost in losses:
            lost.append(99)
        losses.append([99])
        self.assertEqual(find_losses("aA", "ba", ""), kept)
        empty = find_losses("ab", "", "ab")
        empty[0].append(0)
        self.assertEqual(empty, [[0], [], []])

    def test_by_name(self):
        self.assertEqual(find_losses(result="", queue="aab", program="B"), [[0, 1], []])


class CheckLosses(CheckedCase):
    def test_every_list_of_positions(self):
        """All lists of sets of positions, performed."""
        for program in ["", "a", "A", "aA", "Ab", "AB", "bA"]:
            for queue in strings_of("ab", 3):
                choices = [list(chosen) for size in range(3) for chosen in itertools.combinations(range(4), size)]
                for losses in itertools.product(choices, repeat=len(program) + 1):
                    self.check_against_performance(program, queue, list(losses))

    def check_against_performance(self, program, queue, losses):
        try:
            expected = performed(program, queue, losses)
        except IndexError:
            expected = None
        for result in ["", "a", "b", "ab", "bb"] + ([] if expected is None else [expected]):
            self.assertIs(check_losses(program, queue, result, losses), result == expected)

    def test_a_take_must_find_its_item_at_the_front(self):
        self.assertIs(check_losses("A", "ba", "", [[0], []]), True)
        self.assertIs(check_losses("A", "ba", "b", [[], []]), False)
        self.assertIs(check_losses("A", "ba", "", [[], [0]]), False)
        self.assertIs(check_losses("A", "a", "", [[0], []]), False)
        self.assertIs(check_losses("A", "", "", [[], []]), False)

    def test_losses_need_not_be_the_earliest(self):
        self.assertIs(check_losses("A", "aba", "", [[0, 1], []]), True)
        self.assertIs(check_losses("aAb", "cab", "b", [[0, 1, 2], [], [], []]), True)
        self.assertIs(check_losses("bA", "cab", "", [[2], [0], [0]]), True)
        self.assertIs(check_losses("bA", "cab", "", [[2], [0], [0, 1]]), False)
        self.assertIs(check_losses("bA", "cab", "", [[2], [0, 2], []]), True)

    def test_the_final_word(self):
        self.assertIs(check_losses("ab", "c", "cab", [[], [], []]), True)
        self.assertIs(check_losses("ab", "c", "ca", [[], [], []]), False)
        self.assertIs(check_losses("ab", "c", "ca", [[], [], [2]]), True)
        self.assertIs(check_losses("ab", "c", "ca", [[], [], [1]]), False)

    def test_too_short_and_too_long(self):
        for losses in [[], [[]], [[], [], []], [[], [], [], []]]:
            self.assertIs(check_losses("a", "", "a", losses), len(losses) == 2)
            self.assertIs(check_losses("", "", "", losses), len(losses) == 1)
            self.assertIs(check_losses("ab", "", "ab", losses), len(losses) == 3)

    def test_positions_that_are_wrong(self):
        wrong = [[-1], [3], [2, 1], [1, 1], [0, 0], [0, 3], [True], [False], [False, True], [0, True], [10 ** 199],
                 ["0"], [""], [None], [[0]], [(0,)], [{}], [b"a"], [0, None], [-1, 0], [-3, -2]]
        for lost in wrong:
            with self.subTest(lost=lost):
                for result in ["", "a", "b", "c", "ab", "bc", "ac", "abc"]:
                    self.assertIs(check_losses("", "abc", result, [lost]), False)
                    self.assertIs(check_losses("h", "abc", result + "h", [lost, []]), False)
                    self.assertIs(check_losses("hH", "abc", "", [[0, 1, 2], [], lost]), False)

    def test_positions_are_those_of_the_word_at_that_time(self):
        self.assertIs(check_losses("b", "a", "a", [[], [1]]), True)
        self.assertIs(check_losses("b", "a", "a", [[1], []]), False)
        self.assertIs(check_losses("A", "ab", "", [[], [0]]), True)
        self.assertIs(check_losses("A", "ab", "", [[], [1]]), False)

    def test_other_values(self):
        for value in values_of_other_kinds() + ["", "[]", "ab", object]:
            with self.subTest(value=value):
                self.assertIs(check_losses("a", "", "a", value), False)
                self.assertIs(check_losses("", "", "", value), False)
                if value != []:
                    self.assertIs(check_losses("a", "b", "ba", [value, []]), False)
                    self.assertIs(check_losses("a", "b", "ba", [[], value]), False)

    def test_tuples_in_place_of_lists(self):
        self.assertIs(check_losses("B", "aab", "", [[0, 1], []]), True)
        self.assertIs(check_losses("B", "aab", "", ([0, 1], [])), False)
        self.assertIs(check_losses("B", "aab", "", [(0, 1), []]), False)
        self.assertIs(check_losses("B", "aab", "", [[0, 1], ()]), False)
        self.assertIs(check_losses("B", "aab", "", [{0: 0, 1: 1}, []]), False)

    def test_long_losses(self):
        program, queue = "b" * 200 + "B" * 200, "a" * 400
        losses = [[] for step in program] + [[]]
        self.assertIs(check_losses(program, queue, "", losses), False)
        losses[200] = list(range(400))
        self.assertIs(check_losses(program, queue, "", losses), True)
        losses[200] = list(range(399))
        self.assertIs(check_losses(program, queue, "", losses), False)

    def test_the_losses_are_not_changed(self):
        losses = [[0, 1], []]
        check_losses("B", "aab", "", losses)
        self.assertEqual(losses, [[0, 1], []])

    def test_by_name(self):
        self.assertIs(check_losses(losses=[[0, 1], []], result="", queue="aab", program="B"), True)


class WrongArguments(CheckedCase):
    def calls(self):
        return [
            (is_possible, ()),
            (find_losses, ()),
            (check_losses, ([[], []],)),
            (check_losses, (None,)),
        ]

    def test_each_argument(self):
        for function, rest in self.calls():
            for value in wrong_programs():
                self.assert_error(InvalidProgram, "value", value, function, value, "ab", "ab", *rest)
            for value in wrong_words():
                self.assert_error(InvalidWord, "value", value, function, "a", value, "ab", *rest)
                self.assert_error(InvalidWord, "value", value, function, "a", "ab", value, *rest)

    def test_the_leftmost_one(self):
        for function, rest in self.calls():
            for value in few_wrong_programs():
                self.assert_error(InvalidProgram, "value", value, function, value, "i", None, *rest)
            for value in few_wrong_words():
                self.assert_error(InvalidWord, "value", value, function, "A", value, ["i"], *rest)

    def test_a_wrong_result_of_a_failing_program(self):
        for function, rest in self.calls():
            for value in few_wrong_words():
                self.assert_error(InvalidWord, "value", value, function, "A", "", value, *rest)


if __name__ == "__main__":
    unittest.main()

"""Point 15, observations: leakyqueue/observations.py."""

import copy
import random
import unittest

from leakyqueue.errors import InvalidNumber, InvalidObservations, InvalidPrograms
from leakyqueue.observations import best_probe, consistent
from plain import plain_result
from samples import (
    ALL_STEPS, CheckedCase, few_wrong_programs, few_wrong_words, no_numbers, random_string, strings_of,
    values_of_other_kinds, wrong_programs, wrong_words,
)


def plain_consistent(programs, observations):
    """The indexes of the programs with these results, by performing them all."""
    found = []
    for index, program in enumerate(programs):
        if all([plain_result(program, queue) == result for queue, result in observations]):
            found.append(index)
    return found


def plain_probe(programs, length):
    """The first queue with the smallest largest group, by performing all programs on all queues."""
    best, smallest = None, None
    for queue in strings_of("abcdefgh", length):
        groups = {}
        for program in programs:
            groups.setdefault(plain_result(program, queue), []).append(program)
        largest = max([len(group) for group in groups.values()])
        if smallest is None or largest < smallest:
            best, smallest = queue, largest
    return best


def no_lists():
    return [value for value in values_of_other_kinds() if not isinstance(value, list)] + ["", "aA", ("aA",)]


def wrong_observations():
    """Values of each form that is no observation."""
    wrong = [(queue, "a") for queue in wrong_words()] + [("a", result) for result in wrong_words() if result is not None]
    wrong += [("a",), (), ("a", "a", "a"), ("a", None, None), ["a", "a"], "aa", {"a": "a"}, (None, "a"), (None, None)]
    return wrong + [value for value in values_of_other_kinds() if value != ("a", "b")]


class ObservationCase(CheckedCase):
    def assert_index(self, error, index, call, *arguments):
        """The call raises this error with this index, and no argument changes."""
        before = copy.deepcopy(arguments)
        with self.assertRaises(error) as caught:
            call(*arguments)
        self.assertEqual(caught.exception.__class__, error)
        self.assert_same(index, caught.exception.index)
        self.assertEqual(arguments, before)


class Examples(unittest.TestCase):
    def test_document_example(self):
        self.assertEqual(
            [consistent(['aA', '', 'Aa'], [('a', 'a')]), best_probe(['aA', '', 'Aa'], 2)],
            [[0, 1, 2], 'b'],
        )


class Consistent(ObservationCase):
    def test_drawn_programs(self):
        source = random.Random(100)
        sizes = set()
        for count in range(600):
            letters = source.choice(["aA", "abAB", "aAAB", "abcABC"])
            programs = [random_string(source, letters, 3) for k in range(source.randint(1, 20))]
            observations = []
            for k in range(source.randint(0, 3)):
                queue = random_string(source, "ab", 3)
                result = plain_result(source.choice(programs), queue)
                observations.append((queue, source.choice([result, result, result, None, queue, "ab"])))
            before = copy.deepcopy((programs, observations))
            expected = plain_consistent(programs, observations)
            self.assertEqual(consistent(programs, observations), expected)
            self.assertEqual((programs, observations), before)
            sizes.add(min(len(expected), 4))
        self.assertEqual(sizes, {0, 1, 2, 3, 4})

    def test_no_observations(self):
        self.assertEqual(consistent([""], []), [0])
        self.assertEqual(consistent(["a"] * 20, []), list(range(20)))

    def test_programs_that_fail(self):
        programs = ["A", "aA", "B", "", "AB"]
        self.assertEqual(consistent(programs, [("", None)]), [0, 2, 4])
        self.assertEqual(consistent(programs, [("a", None)]), [2, 4])
        self.assertEqual(consistent(programs, [("a", ""), ("b", None)]), [0])
        self.assertEqual(consistent(programs, [("ab", None)]), [])
        # An empty result is not a failure.
        self.assertEqual(consistent(programs, [("", "")]), [1, 3])

    def test_results_that_no_program_has(self):
        self.assertEqual(consistent(["a", "A"], [("a", "h")]), [])
        self.assertEqual(consistent(["a", "A"], [("a", "aa"), ("a", "")]), [])
        self.assertEqual(consistent(["a"], [("a", None)]), [])

    def test_results_of_any_length(self):
        """A result with more than 400 items is none of those that can be observed."""
        programs = ["a" * 400, "a", "", "aA"]
        self.assertEqual(consistent(programs, [("a" * 400, "a" * 400)]), [2, 3])
        self.assertEqual(consistent(programs, [("", "a" * 400)]), [0])
        self.assertEqual(consistent(programs, [("a" * 399, "a" * 400)]), [1])
        self.assertEqual(consistent(programs, [("a" * 400, None)]), [])

    def test_many_observations(self):
        observations = [("a" * (k % 30), "a" * (k % 30 + 1)) for k in range(2000)]
        self.assertEqual(consistent(["a", "aa", "aaA"], observations), [0, 2])
        self.assertEqual(consistent(["a", "aa", "aaA"], observations + [("b", "ba")]), [0])

    def test_every_list_is_new(self):
        found = consistent(["a", "b"], [])
        found.append(7)
        self.assertEqual(consistent(["a", "b"], []), [0, 1])

    def test_by_name(self):
        self.assertEqual(consistent(observations=[("a", "")], programs=["A", "B"]), [0])


class BestProbe(ObservationCase):
    def test_drawn_programs(self):
        source = random.Random(101)
        found = set()
        for count in range(120):
            letters = source.choice(["aA", "abAB", "abcABC", "ghGH", ALL_STEPS])
            programs = [random_string(source, letters, 5) for k in range(source.randint(1, 12))]
            before = list(programs)
            length = source.choice([0, 1, 2, 2])
            probe = best_probe(programs, length)
            self.assertEqual(probe, plain_probe(programs, length))
            self.assertEqual(programs, before)
            found.add(probe)
        self.assertGreater(len(found), 5)

    def test_queues_of_three_items(self):
        source = random.Random(102)
        lengths = set()
        for programs in [["ABC", "ACB", "BAC", "BCA", "CAB", "CBA"], ["AB", "BA", "ABa", "abAB"], ["HGF", "HFG"]]:
            self.assertEqual(best_probe(programs, 3), plain_probe(programs, 3))
            lengths.add(len(best_probe(programs, 3)))
        for count in range(12):
            programs = [random_string(source, "abAB", 6) for k in range(source.randint(2, 20))]
            self.assertEqual(best_probe(programs, 3), plain_probe(programs, 3))
            lengths.add(len(best_probe(programs, 3)))
        self.assertIn(3, lengths)

    def test_one_program_and_equivalent_programs(self):
        for length in range(4):
            self.assertEqual(best_probe(["A"], length), "")
            self.assertEqual(best_probe(["aB", "Ba"], length), "")
            self.assertEqual(best_probe([""] * 20, length), "")

    def test_the_first_of_several_best_queues(self):
        self.assertEqual(best_probe(["A", "B"], 3), "a")
        self.assertEqual(best_probe(["B", "C"], 3), "b")
        self.assertEqual(best_probe(["H", "G"], 3), "g")
        self.assertEqual(best_probe(["a", "b"], 3), "")
        self.assertEqual(best_probe(["AB", "BA"], 2), "ab")
        self.assertEqual(best_probe(["aA", ""], 3), "b")

    def test_too_short_queues(self):
        self.assertEqual(best_probe(["AB", "BA"], 1), "")
        self.assertEqual(best_probe(["ABC", "ACB"], 2), "")
        self.assertEqual(best_probe(["ABC", "ACB"], 3), "abc")
        self.assertEqual(best_probe(["A", "B"], 0), "")

    def test_the_largest_group_counts(self):
        """Not the number of groups: there are four on '', one of them of three programs, and three of two on 'a'."""
        programs = ["Ab", "Ac", "Ad", "bBb", "cCc", "dDd"]
        self.assertEqual([plain_result(program, "") for program in programs], [None, None, None, "b", "c", "d"])
        self.assertEqual([plain_result(program, "a") for program in programs], ["b", "c", "d", "b", "c", "d"])
        self.assertEqual(best_probe(programs, 1), "a")

    def test_20_long_programs(self):
        source = random.Random(103)
        for letters in ["aA", "aaA", "abAB", ALL_STEPS]:
            programs = ["".join([source.choice(letters) for k in range(400)]) for j in range(20)]
            probe = best_probe(programs, 1)
            self.assertEqual(probe, plain_probe(programs, 1))
            self.assertIsInstance(best_probe(programs, 3), str)

    def test_results_of_any_length(self):
        programs = ["a" * 400, "a" * 399 + "b", "b" * 400]
        self.assertEqual(best_probe(programs, 3), "")
        self.assertEqual(best_probe(["a" * 400 for k in range(3)], 1), "")

    def test_by_name(self):
        self.assertEqual(best_probe(length=2, programs=["AB", "BA"]), "ab")

    def test_wrong_lengths(self):
        for value in no_numbers() + [-1, 4, 5, 10 ** 30]:
            with self.subTest(value=value):
                self.assert_error(InvalidNumber, "value", value, best_probe, ["A"], value)
                self.assert_error(InvalidNumber, "value", value, best_probe, ["A"] * 20, value)


class Errors(ObservationCase):
    def assert_programs(self, index, value):
        """Both functions raise the error, whatever the other argument is."""
        for other in [[], None, [None], [("a", "a")]]:
            self.assert_index(InvalidPrograms, index, consistent, value, other)
        for other in [0, 3, -1, True, None]:
            self.assert_index(InvalidPrograms, index, best_probe, value, other)

    def test_programs_that_are_no_list_of_1_to_20(self):
        for value in no_lists():
            with self.subTest(value=value):
                self.assert_programs(None, value)
        for value in [[], ["a"] * 21, [""] * 400, [None] * 21]:
            self.assert_programs(None, value)

    def test_1_and_20_programs(self):
        for size in [1, 2, 19, 20]:
            self.assertEqual(consistent([""] * size, []), list(range(size)))
            self.assertEqual(best_probe([""] * size, 0), "")

    def test_items_that_are_no_programs(self):
        for value in wrong_programs():
            with self.subTest(value=value):
                self.assert_programs(0, [value])
        for value in few_wrong_programs():
            self.assert_programs(1, ["a", value, None, value])
            self.assert_programs(19, ["a"] * 19 + [value])

    def test_observations_that_are_no_list(self):
        for value in no_lists() + [(("a", "a"),), ("a", "a")]:
            with self.subTest(value=value):
                self.assert_index(InvalidObservations, None, consistent, ["a"], value)

    def test_items_that_are_no_observations(self):
        for value in wrong_observations():
            with self.subTest(value=value):
                self.assert_index(InvalidObservations, 0, consistent, ["a"], [value])
                self.assert_index(InvalidObservations, 2, consistent, ["a"], [("", ""), ("a", None), value, None])
        for value in few_wrong_words():
            # An earlier observation that no program has does not hide it.
            self.assert_index(InvalidObservations, 1, consistent, ["a"], [("", None), (value, None)])

    def test_words_of_400_items(self):
        self.assertEqual(consistent([""], [("a" * 400, "a" * 400)]), [0])
        self.assert_index(InvalidObservations, 0, consistent, [""], [("a" * 401, "a")])
        self.assert_index(InvalidObservations, 0, consistent, [""], [("a", "a" * 401)])


if __name__ == "__main__":
    unittest.main()

"""Point 10, commuting programs, roots and unchanged queues: leakyqueue/algebra.py."""

import random
import unittest

from leakyqueue.algebra import commute, roots, unchanged_queues
from leakyqueue.effects import Effect
from leakyqueue.errors import InvalidNumber, InvalidProgram
from plain import core_by_halving, merges, plain_core, plain_result, plain_values
from samples import (
    ALL_STEPS, CheckedCase, few_wrong_programs, no_numbers, random_string, strings_of, wrong_programs,
)


def takes_and_puts(program):
    return [step for step in program if step.isupper()], [step for step in program if step.islower()]


def words_of_length(letters, length):
    return [word for word in strings_of(letters, length) if len(word) == length]


def all_effects(letters, take_count, put_count):
    """A program for each effect with so many takes and puts, by the values of the effect."""
    found = {}
    for taken in words_of_length(letters, take_count):
        for given in words_of_length(letters, put_count):
            for program in merges(taken, given):
                found.setdefault((taken, given, plain_core(program)), program)
    return found


def plain_roots(program, exponent, letters):
    """The values of all effects of a fitting size that yield the effect, found by trying them all."""
    taken, given, core = plain_values(program)
    if len(taken) % exponent or len(given) % exponent:
        return []
    tried = all_effects(letters, len(taken) // exponent, len(given) // exponent)
    yielding = [effect for effect in tried if plain_values(tried[effect] * exponent) == (taken, given, core)]
    return sorted(yielding, key=lambda effect: effect[2])


class AlgebraCase(CheckedCase):
    def assert_roots(self, program, exponent, expected):
        found = roots(program, exponent)
        self.assertIs(found.__class__, list)
        for root in found:
            self.assertIs(root.__class__, Effect)
        self.assertEqual([(root.takes, root.puts, root.core) for root in found], expected)


class Examples(unittest.TestCase):
    def test_document_example(self):
        self.assertEqual(
            [commute('a', 'B'), [root.core for root in roots('ABbABb', 2)], unchanged_queues('Aa', 3),
             unchanged_queues('ABba', 4)],
            [True, [1, 2], ['a', 'aa', 'aaa'], ['aba']],
        )


class Commute(CheckedCase):
    def test_joined_programs(self):
        programs = list(strings_of("abAB", 3))
        answers = set()
        for first in programs:
            for second in programs:
                expected = plain_values(first + second) == plain_values(second + first)
                answers.add((expected, first == second, sorted(first) == sorted(second)))
                self.assertIs(commute(first, second), expected)
        self.assertIn((True, False, True), answers)
        self.assertIn((False, False, True), answers)

    def test_programs_that_are_alike(self):
        """Powers and orders of the same steps, which have the same takes and puts in either order."""
        source = random.Random(40)
        answers = []
        for count in range(400):
            program = random_string(source, source.choice(["aA", "abAB", "aabAB", "abABB"]), 5)
            first, second = [list(program * source.randint(1, 3)) for k in range(2)]
            for steps in [first, second]:
                for k in range(source.randint(0, 2)):
                    at = source.randrange(max(len(steps) - 1, 1))
                    steps[at:at + 2] = steps[at:at + 2][::-1]
            first, second = "".join(first), "".join(second)
            expected = plain_values(first + second) == plain_values(second + first)
            answers.append(expected)
            self.assertIs(commute(first, second), expected)
        self.assertGreater(min(answers.count(True), answers.count(False)), 50)

    def test_joined_programs_of_800_steps(self):
        self.assertIs(commute("a" * 400, "A" * 400), False)
        self.assertIs(commute("a" * 400, "B" * 400), True)
        self.assertIs(commute("A" * 400, "A" * 399), True)
        self.assertIs(commute("A" * 400, "A" * 399 + "B"), False)
        self.assertIs(commute("aA" * 200, "a" * 200 + "A" * 200), True)
        self.assertIs(commute("aA" * 200, "A" * 200 + "a" * 200), True)
        self.assertIs(commute("a" * 399 + "b", "a" * 400), False)
        self.assertIs(commute("aB" * 200, "Ba" * 200), True)
        source = random.Random(41)
        for letters in ["aA", "aaA", "aAA", "abAB", ALL_STEPS]:
            program = "".join([source.choice(letters) for k in range(200)])
            for first, second in [(program * 2, program), (program, program[:100] * 2), (program * 2, program[::-1] * 2)]:
                joined = [first + second, second + first]
                values = [(takes_and_puts(program), core_by_halving(program)) for program in joined]
                self.assertIs(commute(first, second), values[0] == values[1])

    def test_the_empty_program_and_itself(self):
        for program in ["", "a", "A", "abBA", "ab" * 200]:
            self.assertIs(commute(program, ""), True)
            self.assertIs(commute("", program), True)
            self.assertIs(commute(program, program), True)

    def test_by_name(self):
        self.assertIs(commute(second="B", first="a"), True)
        self.assertIs(commute(second="A", first="a"), False)

    def test_wrong_programs(self):
        for value in wrong_programs():
            with self.subTest(value=value):
                self.assert_error(InvalidProgram, "value", value, commute, value, "a")
                self.assert_error(InvalidProgram, "value", value, commute, "a", value)
        for value in few_wrong_programs():
            self.assert_error(InvalidProgram, "value", value, commute, value, ["i"])


class Roots(AlgebraCase):
    def test_all_effects_of_a_fitting_size(self):
        """Programs whose takes and puts are repeated, in every order."""
        sizes = [(1, 1, 2), (2, 1, 2), (1, 2, 2), (1, 1, 3), (2, 1, 3), (0, 2, 2), (2, 0, 2), (2, 2, 2), (1, 1, 4)]
        found = set()
        for take_count, put_count, exponent in sizes:
            for taken in words_of_length("ab", take_count):
                for given in words_of_length("ab", put_count):
                    for program in all_orders(taken * exponent, given * exponent):
                        expected = plain_roots(program, exponent, "ab")
                        found.add(len(expected))
                        with self.subTest(program=program, exponent=exponent):
                            self.assert_roots(program, exponent, expected)
        self.assertLessEqual({0, 1, 2}, found)

    def test_random_programs(self):
        source = random.Random(42)
        for count in range(60):
            program = random_string(source, source.choice(["aA", "abAB", "aAA"]), 6)
            for exponent in [1, 2, 3, 4, 5, 6]:
                with self.subTest(program=program, exponent=exponent):
                    self.assert_roots(program, exponent, plain_roots(program, exponent, "ab"))

    def test_a_repeated_program_has_its_effect_as_a_root(self):
        source = random.Random(43)
        for count in range(80):
            program = random_string(source, source.choice(["aA", "abAB", "aabAB", "abcABC"]), 12)
            exponent = source.choice([1, 2, 3, 7, 30])
            found = roots(program * exponent, exponent)
            self.assertIn(Effect.of(program), found)
            cores = [root.core for root in found]
            self.assertEqual(cores, sorted(set(cores)))
            for root in found:
                self.assertEqual(Effect.identity().then(*[root] * exponent), Effect.of(program * exponent))

    def test_the_exponent_1(self):
        for program in ["", "a", "A", "abBA", "ABbABb", "a" * 200 + "A" * 200, "A" * 400]:
            self.assertEqual(roots(program, 1), [Effect.of(program)])

    def test_exponents_without_a_root(self):
        for program, exponent in [("a", 2), ("ab", 2), ("AB", 2), ("aaA", 2), ("aa", 3), ("aA", 400), ("aAaA", 4)]:
            self.assertEqual(roots(program, exponent), [])
        # The takes and puts are repeated, but no core yields this one.
        self.assertEqual(plain_roots("AAaa", 2, "a"), [])
        self.assertEqual(roots("AAaa", 2), [])

    def test_the_empty_program(self):
        for exponent in [1, 2, 3, 399, 400]:
            self.assertEqual(roots("", exponent), [Effect.identity()])

    def test_long_programs(self):
        self.assertEqual(roots("A" * 400, 400), [Effect("a", "", 1)])
        self.assertEqual(roots("a" * 400, 400), [Effect("", "a", 0)])
        self.assertEqual(roots("a" * 200 + "A" * 200, 200), [Effect("a", "a", 0)])
        self.assertEqual(roots("A" * 200 + "a" * 200, 200), [])
        self.assertEqual(roots("Aa" * 200, 200), [Effect("a", "a", 1)])
        self.assertEqual(roots("A" * 399, 400), [])

    def test_every_list_is_new(self):
        found = roots("ABbABb", 2)
        found.append(None)
        self.assertEqual(len(roots("ABbABb", 2)), 2)

    def test_by_name(self):
        self.assertEqual(roots(exponent=2, program="aa"), [Effect("", "a", 0)])

    def test_wrong_programs(self):
        for value in wrong_programs():
            with self.subTest(value=value):
                self.assert_error(InvalidProgram, "value", value, roots, value, 2)
        for value in few_wrong_programs():
            self.assert_error(InvalidProgram, "value", value, roots, value, None)

    def test_wrong_exponents(self):
        for value in no_numbers() + [0, -1, 401, 10 ** 30, 10 ** 199]:
            with self.subTest(value=value):
                for program in ["aa", "", "A" * 400]:
                    self.assert_error(InvalidNumber, "value", value, roots, program, value)


def all_orders(taken, given):
    """One program for each core of these takes and puts, and a few more."""
    programs = list(merges(taken, given))
    by_core = {plain_core(program): program for program in programs}
    return sorted(set(list(by_core.values()) + programs[::max(len(programs) // 4, 1)]))


class UnchangedQueues(CheckedCase):
    def plain_unchanged(self, program, letters, length):
        return [queue for queue in strings_of(letters, length) if plain_result(program, queue) == queue]

    def test_all_words_of_short_lengths(self):
        lengths = set()
        for program in list(strings_of("abAB", 4))[1:]:
            expected = self.plain_unchanged(program, "abc", 4)
            lengths.add(len(expected))
            for length in range(5):
                with self.subTest(program=program, length=length):
                    shorter = [queue for queue in expected if len(queue) <= length]
                    self.assertEqual(unchanged_queues(program, length), shorter)
        self.assertLessEqual({0, 1, 2, 3, 4, 5}, lengths)

    def test_random_programs(self):
        source = random.Random(44)
        for count in range(150):
            program = random_string(source, source.choice(["aA", "abAB", "aabAB", "abABB", "aabbAB"]), 10) or "a"
            self.assertEqual(unchanged_queues(program, 8), self.plain_unchanged(program, "ab", 8))

    def test_all_items(self):
        for program in ["Hh", "hH", "hHgG", "GHhg", "ABCcab", "cabABC"]:
            self.assertEqual(unchanged_queues(program, 3), self.plain_unchanged(program, "abcdefgh", 3))

    def test_long_queues(self):
        self.assertEqual(unchanged_queues("Aa", 40), ["a" * length for length in range(1, 41)])
        self.assertEqual(unchanged_queues("aA", 40), ["a" * length for length in range(41)])
        self.assertEqual(unchanged_queues("ABba", 40), self.by_ends("ABba", "ba"))
        self.assertEqual(unchanged_queues("ABab", 40), [("ab" * 20)[:length] for length in range(2, 41, 2)])
        self.assertEqual(unchanged_queues("A" * 20 + "a" * 20, 40), ["a" * length for length in range(20, 41)])
        self.assertEqual(unchanged_queues("b" * 200 + "a" * 40 + "B" * 160, 40), [])

    def by_ends(self, program, given):
        """The unchanged ones of the words that end the repeated puts, and of changes of these by one item."""
        endless = given * 41
        found = []
        for length in range(41):
            word = endless[len(endless) - length:]
            others = [word[:at] + item + word[at + 1:] for at in range(length) for item in "abc"] + [word]
            found += sorted({other for other in others if plain_result(program, other) == other})
        return found

    def test_changes_of_the_ends(self):
        source = random.Random(45)
        for count in range(30):
            given = random_string(source, "ab", 5) + "a"
            steps = list(given + given.upper())
            source.shuffle(steps)
            program = "".join(steps)
            given = "".join([step for step in program if step.islower()])
            self.assertEqual(unchanged_queues(program, 40), self.by_ends(program, given))

    def test_results_that_are_longer_than_words(self):
        self.assertEqual(unchanged_queues("a" * 400, 40), [])
        self.assertEqual(unchanged_queues("a" * 399 + "B", 40), [])
        self.assertEqual(unchanged_queues("A" * 400, 40), [])
        self.assertEqual(unchanged_queues("a" * 200 + "A" * 200, 40), ["a" * length for length in range(41)])

    def test_the_length_0(self):
        self.assertEqual([unchanged_queues("aA", 0), unchanged_queues("Aa", 0), unchanged_queues("a", 0)], [[""], [], []])

    def test_every_list_is_new(self):
        found = unchanged_queues("aA", 1)
        found.append("b")
        self.assertEqual(unchanged_queues("aA", 1), ["", "a"])

    def test_by_name(self):
        self.assertEqual(unchanged_queues(length=3, program="Aa"), ["a", "aa", "aaa"])

    def test_wrong_programs(self):
        for value in wrong_programs() + [""]:
            with self.subTest(value=value):
                self.assert_error(InvalidProgram, "value", value, unchanged_queues, value, 3)
                self.assert_error(InvalidProgram, "value", value, unchanged_queues, value, None)

    def test_wrong_lengths(self):
        for value in no_numbers() + [-1, 41, 10 ** 30, 10 ** 199]:
            with self.subTest(value=value):
                for program in ["Aa", "a", "A" * 400]:
                    self.assert_error(InvalidNumber, "value", value, unchanged_queues, program, value)


if __name__ == "__main__":
    unittest.main()

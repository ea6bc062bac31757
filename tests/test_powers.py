"""Point 9, repetition: leakyqueue/powers.py."""

import random
import unittest

from leakyqueue.effects import Effect
from leakyqueue.errors import InvalidNumber, InvalidProgram, InvalidWord
from leakyqueue.powers import most_repetitions, power_core, power_effect, power_item, power_length
from plain import core_by_halving, plain_core, plain_result, plain_values
from samples import (
    CheckedCase, few_wrong_programs, few_wrong_words, no_numbers, random_string, strings_of, wrong_programs, wrong_words,
)

GREATEST = 10 ** 30
LETTERS = ["aA", "abAB", "aabAB", "abABB", "aabbAB", "abcABC"]

# Each function with the valid arguments that follow the program, and which of them is the exponent.
CALLS = [
    (power_effect, [2], 0),
    (power_core, [2], 0),
    (power_length, ["ab", 2], 1),
    (power_item, ["ab", 2, 0], 1),
]


def short_cases():
    """Short programs with short queues."""
    for program in strings_of("abAB", 3):
        for queue in ["", "a", "b", "ab", "ba", "aab", "bbaa"]:
            yield program, queue
    source = random.Random(30)
    for count in range(250):
        yield random_string(source, source.choice(LETTERS), 9), random_string(source, "abc", 8)


def programs_of_few_items(count):
    """Programs with at most four takes and four puts: what repeats, repeats after a divisor of 12 repetitions."""
    source = random.Random(31)
    for number in range(count):
        taken = random_string(source, source.choice(["A", "AB", "ABC"]), 4)
        given = random_string(source, source.choice(["a", "ab", "abc"]), 4)
        steps = list(taken + given)
        source.shuffle(steps)
        yield "".join(steps)


def late_repetitions(exponent):
    """A number of repetitions, after which the repeated ones have begun, that stands for the exponent."""
    return 36 + exponent % 12


class PowerCase(CheckedCase):
    def assert_result(self, program, queue, exponent, expected):
        """The length and all items are those of the expected result."""
        if expected is None:
            self.assertIsNone(power_length(program, queue, exponent))
            for position in [0, 1, 10 ** 40]:
                self.assertIsNone(power_item(program, queue, exponent, position))
            return
        self.assert_same(len(expected), power_length(program, queue, exponent))
        items = [power_item(program, queue, exponent, position) for position in range(len(expected))]
        self.assertEqual("".join(items), expected)
        for position in [len(expected), len(expected) + 1, 10 ** 40]:
            self.assertIsNone(power_item(program, queue, exponent, position))


class Examples(unittest.TestCase):
    def test_document_example(self):
        self.assertEqual(
            [power_core('aAA', 10 ** 20), power_length('aaA', '', 10 ** 20), power_item('abA', '', 5, 0),
             most_repetitions('aAA', 'aaa')],
            [100000000000000000000, 100000000000000000000, 'b', 3],
        )


class WrittenOut(PowerCase):
    """The repeated program, written out."""

    def test_cores_and_effects(self):
        for program in sorted({program for program, queue in short_cases()}):
            for exponent in range(9):
                taken, given, core = plain_values(program * exponent)
                with self.subTest(program=program, exponent=exponent):
                    self.assert_same(core, power_core(program, exponent))
                    effect = power_effect(program, exponent)
                    self.assertIs(effect.__class__, Effect)
                    self.assertEqual((effect.takes, effect.puts, effect.core), (taken, given, core))

    def test_results(self):
        for program, queue in short_cases():
            for exponent in [0, 1, 2, 3, 4, 7, 11]:
                with self.subTest(program=program, queue=queue, exponent=exponent):
                    self.assert_result(program, queue, exponent, plain_result(program * exponent, queue))

    def test_programs_of_60_steps(self):
        source = random.Random(32)
        for count in range(25):
            letters = source.choice(LETTERS + ["aaA", "aAA", "abcdABC", "abcdefghABCDEFGH"])
            program = "".join([source.choice(letters) for k in range(60)])
            self.assertEqual([power_core(program, exponent) for exponent in range(5)],
                             [plain_core(program * exponent) for exponent in range(5)])
            queue = random_string(source, letters.lower(), 400)
            for exponent in [1, 2, 5, 14]:
                expected = plain_result(program * exponent, queue)
                length = power_length(program, queue, exponent)
                self.assertEqual(length, None if expected is None else len(expected))
                for position in range(0, length or 1, 7):
                    item = None if not expected else expected[position]
                    self.assertEqual(power_item(program, queue, exponent, position), item)

    def test_the_exponent_0(self):
        for program in ["", "a", "A", "abBA", "A" * 60]:
            self.assert_same(0, power_core(program, 0))
            self.assertEqual(power_effect(program, 0), Effect.identity())
            for queue in ["", "a", "hgf", "ab" * 200]:
                self.assert_result(program, queue, 0, queue)


class GreatExponents(PowerCase):
    def exponents(self):
        source = random.Random(33)
        return [GREATEST, GREATEST - 1, 10 ** 29] + [source.randint(10 ** 20, GREATEST) for k in range(4)]

    def test_cores_that_repeat(self):
        """From some repetition on, 12 more repetitions always add the same number to the core."""
        for program in programs_of_few_items(40):
            for exponent in self.exponents():
                late = late_repetitions(exponent)
                first, second = [core_by_halving(program * late), core_by_halving(program * (late + 12))]
                expected = first + (exponent - late) // 12 * (second - first)
                with self.subTest(program=program, exponent=exponent):
                    self.assert_same(expected, power_core(program, exponent))

    def test_results_that_repeat(self):
        source = random.Random(34)
        for program in programs_of_few_items(150):
            queue = random_string(source, "abc", 6)
            for exponent in self.exponents():
                late = late_repetitions(exponent)
                first = plain_result(program * late, queue)
                second = plain_result(program * (late + 12), queue)
                with self.subTest(program=program, queue=queue, exponent=exponent):
                    if second is None:
                        self.assert_result(program, queue, exponent, None)
                    else:
                        self.assert_repeated_result(program, queue, exponent, late, first, second)

    def assert_repeated_result(self, program, queue, exponent, late, first, second):
        length = len(first) + (exponent - late) // 12 * (len(second) - len(first))
        self.assert_same(length, power_length(program, queue, exponent))
        # Whatever is added, is added behind the front and before the end.
        for position in range(min(len(first), 6)):
            self.assertEqual(power_item(program, queue, exponent, position), first[position])
            self.assertEqual(power_item(program, queue, exponent, length - 1 - position), first[-1 - position])
        for position in [length, length + 1, length + 10 ** 100]:
            self.assertIsNone(power_item(program, queue, exponent, position))

    def test_a_program_written_several_times(self):
        source = random.Random(35)
        for count in range(120):
            program = random_string(source, source.choice(LETTERS), 20)
            queue = random_string(source, "abc", 12)
            for times in [2, 3]:
                exponent = source.choice([source.randint(0, 20), source.randint(10 ** 20, GREATEST // 3)])
                multiple = exponent * times
                self.assertEqual(power_core(program * times, exponent), power_core(program, multiple))
                length = power_length(program, queue, multiple)
                self.assertEqual(power_length(program * times, queue, exponent), length)
                for position in [0, 1, 5] + ([] if not length else [length // 2, length - 1, length]):
                    self.assertEqual(power_item(program * times, queue, exponent, position),
                                     power_item(program, queue, multiple, position))

    def test_repetitions_after_others(self):
        """After n + m repetitions as after n repetitions on the best result after m."""
        source = random.Random(36)
        for count in range(150):
            program = random_string(source, source.choice(LETTERS), source.choice([8, 30]))
            queue = random_string(source, "abc", 12)
            before = source.randint(0, 9)
            middle = plain_result(program * before, queue)
            exponent = source.randint(10 ** 15, GREATEST - 10)
            if middle is None:
                self.assertIsNone(power_length(program, queue, exponent + before))
            elif len(middle) <= 400:
                length = power_length(program, middle, exponent)
                self.assertEqual(power_length(program, queue, exponent + before), length)
                for position in [0, 3] + ([] if not length else [length // 3, length - 1, length]):
                    self.assertEqual(power_item(program, queue, exponent + before, position),
                                     power_item(program, middle, exponent, position))

    def test_known_values(self):
        self.assertEqual(power_core("A", GREATEST), GREATEST)
        self.assertEqual(power_core("A" * 60, GREATEST), 60 * GREATEST)
        self.assertEqual(power_core("aA" * 30, GREATEST), 0)
        self.assertEqual(power_core("Aa", GREATEST), 1)
        self.assertEqual(power_core("AaA", GREATEST), GREATEST)
        self.assertEqual(power_length("a", "b", GREATEST), GREATEST + 1)
        self.assertEqual(power_length("ab", "c" * 400, GREATEST), 2 * GREATEST + 400)
        self.assertEqual(power_length("Aa", "a" * 400, GREATEST), 400)
        self.assertEqual(power_item("ab", "c", GREATEST, 0), "c")
        self.assertEqual(power_item("ab", "c", GREATEST, 1), "a")
        self.assertEqual(power_item("ab", "c", GREATEST, 2 * GREATEST), "b")
        self.assertIsNone(power_item("ab", "c", GREATEST, 2 * GREATEST + 1))
        self.assertIsNone(power_length("A", "a" * 400, GREATEST))
        self.assertIsNone(power_length("A", "a" * 400, 401))
        self.assertEqual(power_length("A", "a" * 400, 400), 0)

    def test_the_empty_program(self):
        for exponent in [0, 1, 2, 10 ** 20, GREATEST]:
            self.assertEqual(power_effect("", exponent), Effect.identity())
            self.assert_same(0, power_core("", exponent))
            for queue in ["", "abc"]:
                self.assert_result("", queue, exponent, queue)


class MostRepetitions(PowerCase):
    def test_a_simulation(self):
        """A program whose repetitions need more and more old items fails after one more than there are items."""
        ends = set()
        for program, queue in short_cases():
            counts = [count for count in range(len(queue) + 3) if plain_result(program * count, queue) is not None]
            expected = None if len(counts) == len(queue) + 3 else counts[-1]
            ends.add(expected)
            with self.subTest(program=program, queue=queue):
                self.assertEqual(counts, list(range(len(counts))))
                self.assertEqual(most_repetitions(program, queue), expected)
        self.assertLessEqual({None, 0, 1, 2, 3}, ends)

    def test_at_once_late_and_never(self):
        self.assert_same(0, most_repetitions("A", ""))
        self.assert_same(0, most_repetitions("AB", "ba"))
        self.assert_same(400, most_repetitions("A", "a" * 400))
        self.assert_same(400, most_repetitions("aAA", "a" * 400))
        self.assert_same(133, most_repetitions("AAA", "a" * 400))
        self.assert_same(400, most_repetitions("a" * 29 + "A" * 30, "a" * 400))
        self.assert_same(1, most_repetitions("AAb", "aaa"))
        self.assertIsNone(most_repetitions("", ""))
        self.assertIsNone(most_repetitions("a", ""))
        self.assertIsNone(most_repetitions("Aa", "a"))
        self.assertIsNone(most_repetitions("a" * 30 + "A" * 30, ""))
        self.assertIsNone(most_repetitions("A" * 30 + "a" * 30, "a" * 30))
        self.assert_same(0, most_repetitions("A" * 30 + "a" * 30, "a" * 29))

    def test_against_lengths(self):
        source = random.Random(37)
        for count in range(150):
            program = random_string(source, source.choice(LETTERS), source.choice([10, 60]))
            queue = random_string(source, "abc", source.choice([5, 400]))
            most = most_repetitions(program, queue)
            if most is None:
                self.assertIsNotNone(power_length(program, queue, GREATEST))
            else:
                self.assertIsNotNone(power_length(program, queue, most))
                self.assertIsNone(power_length(program, queue, most + 1))
                self.assertIsNotNone(plain_result(program * most, queue))
                self.assertIsNone(plain_result(program * (most + 1), queue))

    def test_by_name(self):
        self.assertEqual(most_repetitions(queue="aaa", program="aAA"), 3)


class Limits(PowerCase):
    def test_400_takes_and_puts_together(self):
        self.assertEqual(power_effect("aA", 200), Effect("a" * 200, "a" * 200, 0))
        self.assertEqual(power_effect("A", 400), Effect("a" * 400, "", 400))
        self.assertEqual(power_effect("b" * 50, 8), Effect("", "b" * 400, 0))
        self.assertEqual(power_effect("Aab" * 19, 7).core, plain_core("Aab" * 19 * 7))
        for program, exponent in [("aA", 201), ("A", 401), ("b" * 50, 9), ("a" * 60, 7), ("abc", 134), ("a", GREATEST)]:
            self.assert_limit(400, power_effect, program, exponent)

    def test_60_and_61_steps(self):
        for function, rest, at in CALLS + [(most_repetitions, ["ab"], None)]:
            function("aB" * 30, *rest)
            for program in ["aB" * 30 + "a", "A" * 61, "a" * 400]:
                self.assert_limit(60, function, program, *rest)

    def test_the_limit_of_steps_comes_before_the_other_arguments(self):
        for function, rest, at in CALLS + [(most_repetitions, ["ab"], None)]:
            for value in [None, "i", -1, True, GREATEST + 1]:
                self.assert_limit(60, function, "a" * 61, *[value for argument in rest])

    def test_exponents(self):
        for function, rest, at in CALLS:
            for exponent in [0, 1, GREATEST]:
                function("", *rest[:at], exponent, *rest[at + 1:])
            for value in no_numbers() + [-1, -GREATEST, GREATEST + 1, 10 ** 199]:
                with self.subTest(function=function.__name__, value=value):
                    for program in ["aAA", "", "A" * 60]:
                        arguments = [*rest[:at], value, *rest[at + 1:]]
                        self.assert_error(InvalidNumber, "value", value, function, program, *arguments)

    def test_positions(self):
        for value in no_numbers() + [-1, -10 ** 199]:
            with self.subTest(value=value):
                # Also where the repeated program fails.
                for program, queue in [("ab", "ab"), ("A", ""), ("", "")]:
                    self.assert_error(InvalidNumber, "value", value, power_item, program, queue, 2, value)
        for position in [10 ** 30 + 1, 10 ** 199]:
            self.assertIsNone(power_item("ab", "", 2, position))

    def test_wrong_programs(self):
        for function, rest, at in CALLS + [(most_repetitions, ["ab"], None)]:
            for value in wrong_programs():
                with self.subTest(function=function.__name__, value=value):
                    self.assert_error(InvalidProgram, "value", value, function, value, *rest)
            for value in few_wrong_programs():
                self.assert_error(InvalidProgram, "value", value, function, value, *[None for argument in rest])

    def test_wrong_queues(self):
        for function, rest in [(power_length, [2]), (power_item, [2, 0]), (most_repetitions, [])]:
            for value in wrong_words():
                with self.subTest(function=function.__name__, value=value):
                    self.assert_error(InvalidWord, "value", value, function, "aA", value, *rest)
            for value in few_wrong_words():
                self.assert_error(InvalidWord, "value", value, function, "", value, *[None for argument in rest])

    def test_which_number_comes_first(self):
        self.assert_error(InvalidNumber, "value", True, power_item, "a", "a", True, -1)
        self.assert_error(InvalidNumber, "value", None, power_item, "a", "a", None, "b")
        too_great = GREATEST + 1
        self.assert_error(InvalidNumber, "value", too_great, power_effect, "a" * 60, too_great)

    def test_by_name(self):
        self.assertEqual(power_effect(exponent=2, program="aA"), Effect("aa", "aa", 0))
        self.assertEqual(power_core(exponent=5, program="aAA"), 5)
        self.assertEqual(power_length(exponent=5, queue="", program="aaA"), 5)
        self.assertEqual(power_item(position=0, exponent=5, queue="", program="abA"), "b")


if __name__ == "__main__":
    unittest.main()

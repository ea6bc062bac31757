"""Point 11, counting: leakyqueue/counting.py."""

import itertools
import math
import random
import unittest

from leakyqueue.counting import effects_of, position_of, program_at, program_count, programs
from leakyqueue.effects import Effect
from leakyqueue.errors import InvalidEffect, InvalidNumber, InvalidProgram, InvalidWord
from leakyqueue.exchanges import normal_program
from leakyqueue.queues import Queue
from plain import core_by_halving, counts_of, merges, plain_core
from samples import (
    ALL_STEPS, CheckedCase, few_wrong_words, no_numbers, random_string, strings_of, values_of_other_kinds,
    wrong_programs, wrong_words,
)


def no_effects():
    """Values that are no effects, among them programs, texts and tuples of the values of one."""
    values = [value for value in values_of_other_kinds() if value.__class__ is not Effect]
    return values + ["", "aA", "a ab 0", ("a", "ab", 0), ["a", "ab", 0], [Effect("a", "ab", 0)], Effect, Queue("a")]


def grouped_programs(taken, given):
    """All programs with these takes and puts, by their cores, in the order of their put counts."""
    groups = {}
    for program in sorted(merges(taken, given), key=counts_of):
        groups.setdefault(plain_core(program), []).append(program)
    return groups


def long_effects():
    """Effects with many items, and with many programs of most of them."""
    for taken, given in [
        ("a" * 200, "a" * 200), ("ab" * 100, "ab" * 100), ("ab" * 100, "ba" * 100), ("a" * 200, "b" * 200),
        ("abcdefgh" * 25, "hgfedcba" * 25), ("a" * 100, "ab" * 150), ("ab" * 150, "a" * 100), ("a" * 399, "a"),
        ("a", "a" * 399), ("a" * 400, ""), ("", "a" * 400),
    ]:
        effects = effects_of(taken, given)
        for effect in [effects[0], effects[len(effects) // 2], effects[-1]]:
            yield effect


class CountingCase(CheckedCase):
    def assert_numbered(self, effect, numbered):
        """These programs are all programs of the effect, in order."""
        self.assert_same(len(numbered), program_count(effect))
        self.assertEqual(list(programs(effect)), numbered)
        for position, program in enumerate(numbered):
            self.assert_same(program, program_at(effect, position))
            self.assert_same(position, position_of(program))
        for behind in [len(numbered), len(numbered) + 1, 10 ** 30, 10 ** 199]:
            self.assertIsNone(program_at(effect, behind))


class Examples(unittest.TestCase):
    def test_document_example(self):
        e = Effect('a', 'ab', 0)
        self.assertEqual(
            [[x.core for x in effects_of('a', 'ab')], program_count(e), list(programs(e)), program_at(e, 2),
             position_of('Aab')],
            [[0, 1], 2, ['aAb', 'abA'], None, 0],
        )


class AllPrograms(CountingCase):
    def assert_all(self, taken, given):
        groups = grouped_programs(taken, given)
        effects = effects_of(taken, given)
        self.assertEqual([effect.core for effect in effects], sorted(groups))
        for effect in effects:
            with self.subTest(effect=effect):
                self.assertEqual((effect.takes, effect.puts), (taken, given))
                self.assert_numbered(effect, groups[effect.core])

    def test_short_takes_and_puts(self):
        for taken in strings_of("ab", 3):
            for given in strings_of("ab", 4):
                self.assert_all(taken, given)

    def test_one_item(self):
        for take_count, put_count in itertools.product(range(6), range(6)):
            self.assert_all("a" * take_count, "a" * put_count)

    def test_drawn_takes_and_puts(self):
        source = random.Random(50)
        for count in range(60):
            letters = source.choice(["a", "ab", "aab", "abc", "gh"])
            self.assert_all(random_string(source, letters, 5), random_string(source, letters, 5))

    def test_programs_of_the_same_effect(self):
        """From a program to its effect and back."""
        for program in strings_of("abAB", 4):
            effect = Effect.of(program)
            self.assertEqual(program_at(effect, position_of(program)), program)
            self.assertIn(program, list(programs(effect)))

    def test_the_normal_program_is_the_first_one(self):
        source = random.Random(51)
        for count in range(100):
            program = random_string(source, source.choice(["aA", "abAB", "aabAB", ALL_STEPS]), 30)
            normal = normal_program(program)
            self.assert_same(0, position_of(normal))
            self.assertEqual(program_at(Effect.of(program), 0), normal)


class ManyPrograms(CountingCase):
    def test_all_effects_together(self):
        source = random.Random(52)
        for count in range(60):
            size = source.randint(0, 40)
            taken = "".join([source.choice("ab") for k in range(source.randint(0, size))])
            given = "".join([source.choice("ab") for k in range(size - len(taken))])
            total = sum([program_count(effect) for effect in effects_of(taken, given)])
            self.assertEqual(total, math.comb(size, len(taken)))

    def test_one_item_200_times(self):
        """The number of paths that rise to the core and not above it, by reflection."""
        for effect in effects_of("a" * 200, "a" * 200)[::25]:
            above = math.comb(400, 199 - effect.core) if effect.core < 200 else 0
            self.assertEqual(program_count(effect), math.comb(400, 200 - effect.core) - above)

    def test_200_takes_and_200_puts_together(self):
        for taken, given in [("ab" * 100, "ba" * 100), ("abcdefgh" * 25, "h" * 200), ("aab" * 66, "ab" * 100)]:
            total = sum([program_count(effect) for effect in effects_of(taken, given)])
            self.assertEqual(total, math.comb(len(taken + given), len(taken)))

    def test_both_ends_the_middle_and_great_positions(self):
        source = random.Random(53)
        great = 0
        for effect in long_effects():
            total = program_count(effect)
            great += total > 10 ** 60
            positions = {0, 1, total // 3, total // 2, total - 2, total - 1, source.randrange(total)}
            previous = None
            for position in sorted(position for position in positions if 0 <= position < total):
                program = program_at(effect, position)
                self.assertEqual("".join([step.lower() for step in program if step.isupper()]), effect.takes)
                self.assertEqual("".join([step for step in program if step.islower()]), effect.puts)
                self.assertEqual(core_by_halving(program), effect.core)
                self.assert_same(position, position_of(program))
                if previous is not None:
                    self.assertLess(previous, counts_of(program))
                previous = counts_of(program)
            self.assertIsNone(program_at(effect, total))
            self.assertIsNone(program_at(effect, total + 1))
        self.assertGreater(great, 5)

    def test_neighbours(self):
        """Positions one after the other, with no program between."""
        effect = Effect("ab" * 10, "ab" * 10, 3)
        middle = program_count(effect) // 2
        numbered = [program_at(effect, middle + k) for k in range(50)]
        self.assertEqual(sorted(numbered, key=counts_of), numbered)
        for k, program in enumerate(numbered):
            self.assertEqual(position_of(program), middle + k)

    def test_programs_one_at_a_time(self):
        """The iteration does not wait for programs that nobody asks for."""
        for effect in long_effects():
            first = list(itertools.islice(programs(effect), 3))
            self.assertEqual(first, [program_at(effect, k) for k in range(min(3, program_count(effect)))])

    def test_equal_programs_only(self):
        self.assertEqual(list(programs(Effect("", "", 0))), [""])
        self.assertEqual(list(programs(Effect("", "abc", 0))), ["abc"])
        self.assertEqual(list(programs(Effect("abc", "", 3))), ["ABC"])
        self.assertEqual(list(programs(Effect("a", "b", 1))), ["Ab", "bA"])
        self.assertEqual(list(programs(Effect("a", "a", 1))), ["Aa"])
        self.assertEqual(position_of(""), 0)

    def test_iterations_are_independent(self):
        effect = Effect("a", "bb", 1)
        one, other = iter(programs(effect)), iter(programs(effect))
        self.assertEqual([next(one), next(one), next(other), next(one)], ["Abb", "bAb", "Abb", "bbA"])


class EffectsOf(CountingCase):
    def test_kinds_and_new_lists(self):
        found = effects_of("aa", "a")
        self.assertIs(found.__class__, list)
        self.assertEqual(found, [Effect("aa", "a", 1), Effect("aa", "a", 2)])
        found.append(None)
        self.assertEqual(len(effects_of("aa", "a")), 2)

    def test_400_items(self):
        self.assertEqual(effects_of("a" * 400, ""), [Effect("a" * 400, "", 400)])
        self.assertEqual(effects_of("", "a" * 400), [Effect("", "a" * 400, 0)])
        self.assertEqual(len(effects_of("a" * 200, "a" * 200)), 201)
        self.assertEqual(len(effects_of("a" * 399, "b")), 1)

    def test_401_items(self):
        for taken, given in [("a" * 400, "a"), ("a", "a" * 400), ("a" * 201, "b" * 200), ("a" * 400, "b" * 400)]:
            self.assert_limit(400, effects_of, taken, given)

    def test_wrong_words(self):
        for value in wrong_words():
            with self.subTest(value=value):
                self.assert_error(InvalidWord, "value", value, effects_of, value, "a" * 400)
                self.assert_error(InvalidWord, "value", value, effects_of, "a" * 400, value)
        for value in few_wrong_words():
            self.assert_error(InvalidWord, "value", value, effects_of, value, ["i"])

    def test_by_name(self):
        self.assertEqual(effects_of(puts="ab", takes="a"), [Effect("a", "ab", 0), Effect("a", "ab", 1)])


class WrongArguments(CountingCase):
    def test_no_effects(self):
        for value in no_effects():
            with self.subTest(value=value):
                self.assert_error(InvalidEffect, "index", None, program_count, value)
                self.assert_error(InvalidEffect, "index", None, program_at, value, 0)
                self.assert_error(InvalidEffect, "index", None, program_at, value, -1)
                self.assert_error(InvalidEffect, "index", None, program_at, value, None)

    def test_programs_raises_when_the_iteration_begins(self):
        for value in no_effects():
            with self.subTest(value=value):
                iteration = programs(value)
                self.assert_error(InvalidEffect, "index", None, iteration.__next__)

    def test_positions_of_other_kinds(self):
        for value in no_numbers() + [-1, -2, -(10 ** 30)]:
            with self.subTest(value=value):
                for effect in [Effect("a", "ab", 0), Effect("", "", 0)]:
                    self.assert_error(InvalidNumber, "value", value, program_at, effect, value)

    def test_wrong_programs(self):
        for value in wrong_programs():
            with self.subTest(value=value):
                self.assert_error(InvalidProgram, "value", value, position_of, value)

    def test_by_name(self):
        effect = Effect("a", "ab", 0)
        self.assertEqual(program_count(effect=effect), 2)
        self.assertEqual(program_at(position=1, effect=effect), "abA")
        self.assertEqual(list(programs(effect=effect)), ["aAb", "abA"])
        self.assertEqual(position_of(program="abA"), 1)

    def test_effects_stay_as_they_are(self):
        effect = Effect("ab", "ab", 1)
        results = [program_count(effect), program_at(effect, 0), list(programs(effect))]
        self.assertEqual(effect, Effect("ab", "ab", 1))
        self.assertEqual(results, [program_count(effect), program_at(effect, 0), list(programs(effect))])


if __name__ == "__main__":
    unittest.main()

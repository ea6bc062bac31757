"""Point 6, effects: leakyqueue/effects.py."""

import itertools
import random
import unittest

from leakyqueue.effects import Effect
from leakyqueue.errors import InvalidCore, InvalidEffect, InvalidProgram, InvalidWord
from leakyqueue.queues import LeakyQueue
from plain import merges, plain_core, plain_result, plain_values
from samples import (
    ALL_STEPS, CheckedCase, few_wrong_words, random_string, strings_of, values_of_other_kinds, wrong_programs,
    wrong_words,
)

LISTED = ["__init__", "takes", "puts", "core", "least_queue", "MAX_ITEMS", "of", "identity", "is_core", "apply", "then",
          "__eq__", "__repr__"]


def values(effect):
    return effect.takes, effect.puts, effect.core


def words_of_two():
    return list(strings_of("ab", 3))


def short_programs():
    yield from strings_of("abAB", 4)
    source = random.Random(8)
    for count in range(300):
        yield random_string(source, "abcABC", 12)


def long_programs():
    source = random.Random(9)
    for letters in ["aA", "aaA", "aAA", "abAB", "abcABC", ALL_STEPS]:
        for count in range(3):
            yield "".join([source.choice(letters) for k in range(400)])
    yield "a" * 200 + "A" * 200
    yield "A" * 200 + "a" * 200
    yield "a" * 400
    yield "A" * 400
    yield "ab" * 100 + "BA" * 100


class EffectCase(CheckedCase):
    def assert_values(self, effect, takes, puts, core):
        """The effect shows these values in every way."""
        self.assertIs(effect.__class__, Effect)
        self.assert_same(takes, effect.takes)
        self.assert_same(puts, effect.puts)
        self.assert_same(core, effect.core)
        self.assert_same(takes[:core], effect.least_queue)
        self.assertEqual(repr(effect), "Effect('" + takes + "', '" + puts + "', " + str(core) + ")")
        self.assertIs(effect == Effect(takes, puts, core), True)


class Examples(unittest.TestCase):
    def test_document_example(self):
        e = Effect.of('abB')
        self.assertEqual(
            [repr(e), repr(Effect.of('BaA')), e.apply('ca'), Effect.of('A').then(Effect.of('b'), Effect.of('B')).core],
            ["Effect('b', 'ab', 0)", "Effect('ba', 'a', 1)", '', 1],
        )


class Constructor(EffectCase):
    def test_listed_names_stand_in_the_class(self):
        for name in LISTED:
            self.assertIn(name, vars(Effect))

    def test_which_effects_there_are(self):
        """Exactly the cores of all programs with the takes and puts are cores."""
        for takes in words_of_two():
            for puts in words_of_two():
                cores = {plain_core(program) for program in merges(takes, puts)}
                for core in range(-1, len(takes) + 3):
                    with self.subTest(takes=takes, puts=puts, core=core):
                        self.assertIs(Effect.is_core(takes, puts, core), core in cores)
                        if core in cores:
                            self.assert_values(Effect(takes, puts, core), takes, puts, core)
                        else:
                            self.assert_error(InvalidCore, "value", core, Effect, takes, puts, core)

    def test_cores_from_below_to_above(self):
        for core, expected in [(-1, False), (0, False), (1, True), (2, True), (3, True), (4, False), (10 ** 199, False)]:
            self.assertIs(Effect.is_core("abc", "bc", core), expected)
            if expected:
                self.assert_values(Effect("abc", "bc", core), "abc", "bc", core)
            else:
                self.assert_error(InvalidCore, "value", core, Effect, "abc", "bc", core)

    def test_cores_of_other_kinds(self):
        others = [value for value in values_of_other_kinds() if value.__class__ is not int] + ["", "0", "1", [0], (1,)]
        for value in others:
            with self.subTest(value=value):
                for takes, puts in [("a", "a"), ("", ""), ("ab", "ab")]:
                    self.assert_error(InvalidCore, "value", value, Effect, takes, puts, value)
                    self.assertIs(Effect.is_core(takes, puts, value), False)

    def test_wrong_words(self):
        for value in wrong_words():
            with self.subTest(value=value):
                for call in [Effect, Effect.is_core]:
                    self.assert_error(InvalidWord, "value", value, call, value, "a", 0)
                    self.assert_error(InvalidWord, "value", value, call, "a", value, 0)
                    self.assert_error(InvalidWord, "value", value, call, "a", value, -1)
                    self.assert_error(InvalidWord, "value", value, call, core=0, puts=value, takes="a")

    def test_which_error_comes_first(self):
        for value in few_wrong_words():
            for call in [Effect, Effect.is_core]:
                self.assert_error(InvalidWord, "value", value, call, value, "i", None)
                self.assert_error(InvalidWord, "value", value, call, "a" * 400, value, None)
        self.assert_error(InvalidCore, "value", None, Effect, "a" * 400, "a" * 400, None)
        core = 401
        self.assert_error(InvalidCore, "value", core, Effect, "a" * 400, "a" * 400, core)
        self.assert_error(InvalidCore, "value", False, Effect, "a" * 400, "a" * 400, False)
        self.assert_error(InvalidCore, "value", 199, Effect, "a" * 201, "b" * 200, 199)

    def test_400_items_together_and_one_more(self):
        self.assert_values(Effect("a" * 200, "a" * 200, 0), "a" * 200, "a" * 200, 0)
        self.assert_values(Effect("a" * 400, "", 400), "a" * 400, "", 400)
        self.assert_values(Effect("", "a" * 400, 0), "", "a" * 400, 0)
        self.assert_limit(400, Effect, "a" * 200, "a" * 201, 0)
        self.assert_limit(400, Effect, "a" * 201, "a" * 200, 201)
        self.assert_limit(400, Effect, "a" * 400, "a", 400)
        self.assert_limit(400, Effect, "a" * 400, "a" * 400, 0)

    def test_cores_whatever_the_number_of_items(self):
        self.assertIs(Effect.is_core("a" * 400, "a" * 400, 0), True)
        self.assertIs(Effect.is_core("a" * 400, "a" * 399, 0), False)
        self.assertIs(Effect.is_core("a" * 400, "a" * 399, 1), True)
        self.assertIs(Effect.is_core("a" * 400, "b" * 400, 399), False)
        self.assertIs(Effect.is_core("a" * 400, "b" * 400, 400), True)
        self.assertIs(Effect.is_core("a" * 400, "b" * 400, 401), False)

    def test_by_name(self):
        self.assert_values(Effect(core=1, puts="b", takes="ab"), "ab", "b", 1)
        self.assertIs(Effect.is_core(core=1, puts="b", takes="ab"), True)
        self.assertIs(Effect("", "", 0).is_core("ab", "b", 0), False)

    def test_the_class_value(self):
        self.assert_same(400, Effect.MAX_ITEMS)
        self.assert_same(400, Effect("", "", 0).MAX_ITEMS)

    def test_the_values_cannot_be_assigned(self):
        effect = Effect("ab", "b", 1)
        for name in ["takes", "puts", "core", "least_queue"]:
            with self.assertRaises(AttributeError):
                setattr(effect, name, "a")
        self.assert_values(effect, "ab", "b", 1)


class Of(EffectCase):
    def test_short_programs(self):
        for program in short_programs():
            with self.subTest(program=program):
                self.assert_values(Effect.of(program), *plain_values(program))

    def test_long_programs(self):
        for program in long_programs():
            with self.subTest(program=program):
                self.assertEqual(values(Effect.of(program)), plain_values(program))

    def test_where_a_program_succeeds(self):
        """A program succeeds exactly on the queues that contain the least queue."""
        for program in strings_of("abAB", 4):
            effect = Effect.of(program)
            for queue in strings_of("abc", 4):
                contained = plain_result(effect.least_queue.upper(), queue) is not None
                self.assertIs(plain_result(program, queue) is not None, contained)

    def test_identity(self):
        self.assert_values(Effect.identity(), "", "", 0)
        self.assertIs(Effect.identity() == Effect.of(""), True)
        self.assert_values(Effect("a", "", 1).identity(), "", "", 0)

    def test_by_name(self):
        self.assert_values(Effect.of(program="BaA"), "ba", "a", 1)

    def test_wrong_programs(self):
        for value in wrong_programs():
            with self.subTest(value=value):
                self.assert_error(InvalidProgram, "value", value, Effect.of, value)


class Apply(EffectCase):
    def test_short_programs_and_queues(self):
        for program in short_programs():
            effect = Effect.of(program)
            for queue in strings_of("abc", 3):
                with self.subTest(program=program, queue=queue):
                    self.assertEqual(effect.apply(queue), plain_result(program, queue))

    def test_long_programs_and_queues(self):
        source = random.Random(10)
        for program in long_programs():
            effect = Effect.of(program)
            taken = effect.takes
            queues = ["", taken, taken[:effect.core], taken[:effect.core][1:], (taken + "h" * 400)[:400], "abcdefgh" * 50]
            for queue in queues + [random_string(source, "abcdefgh", 400) for k in range(5)]:
                expected = plain_result(program, queue)
                if expected is not None and len(expected) > 400:
                    self.assert_limit(400, effect.apply, queue)
                else:
                    self.assertEqual(effect.apply(queue), expected)

    def test_failing_effects(self):
        self.assertIsNone(Effect("a", "a", 1).apply(""))
        self.assertIsNone(Effect("a", "a", 1).apply("b" * 400))
        self.assertEqual(Effect("a", "a", 0).apply("b" * 400), "")

    def test_400_items_and_one_more(self):
        self.assertEqual(Effect("", "b" * 200, 0).apply("a" * 200), "a" * 200 + "b" * 200)
        self.assert_limit(400, Effect("", "b" * 200, 0).apply, "a" * 201)
        self.assert_limit(400, Effect("", "b" * 400, 0).apply, "a")
        self.assert_limit(400, Effect("a", "bb", 1).apply, "a" * 400)
        self.assertEqual(Effect("a", "b", 1).apply("a" * 400), "a" * 399 + "b")

    def test_all_effects_of_short_words(self):
        """The best result is that of the programs with the effect."""
        for takes in words_of_two():
            for puts in words_of_two():
                for program in merges(takes, puts):
                    effect = Effect(takes, puts, plain_core(program))
                    for queue in ["", "a", "b", "ab", "ba", "bab", "aabb"]:
                        self.assertEqual(effect.apply(queue), plain_result(program, queue))

    def test_by_name(self):
        self.assertEqual(Effect.of("abB").apply(queue="ca"), "")

    def test_wrong_queues(self):
        for value in wrong_words():
            with self.subTest(value=value):
                self.assert_error(InvalidWord, "value", value, Effect("a", "b", 1).apply, value)


class Then(EffectCase):
    def test_no_effect(self):
        for program in ["", "a", "A", "abB", "BaA", "a" * 200 + "A" * 200]:
            effect = Effect.of(program)
            self.assert_values(effect.then(), *plain_values(program))

    def test_two_effects(self):
        programs = list(strings_of("abAB", 3))
        effects = {program: Effect.of(program) for program in programs}
        for first in programs:
            for second in programs:
                joined = effects[first].then(effects[second])
                self.assertEqual(values(joined), plain_values(first + second))
                self.assertEqual(values(effects[first]), plain_values(first))

    def test_every_grouping(self):
        source = random.Random(11)
        for count in range(300):
            first, second, third, fourth = [random_string(source, "abcABC", 6) for k in range(4)]
            one, two, three, four = [Effect.of(program) for program in [first, second, third, fourth]]
            expected = plain_values(first + second + third + fourth)
            groupings = [
                one.then(two, three, four), one.then(two).then(three).then(four), one.then(two.then(three, four)),
                one.then(two.then(three), four), one.then(two.then(three)).then(four), one.then(two).then(three.then(four)),
                one.then(two, three).then(four), one.then(two, three.then(four)), one.then(two.then(three.then(four))),
            ]
            for joined in groupings:
                self.assertEqual(values(joined), expected)

    def test_the_identity(self):
        for program in ["", "a", "A", "abB", "BaA"]:
            effect, nothing = Effect.of(program), Effect.identity()
            for joined in [effect.then(nothing), nothing.then(effect), nothing.then(nothing, effect, nothing)]:
                self.assertEqual(joined, effect)

    def test_long_effects(self):
        source = random.Random(12)
        for letters in ["aA", "aaA", "abAB", "abcdABCD"]:
            first, second = ["".join([source.choice(letters) for k in range(200)]) for j in range(2)]
            joined = Effect.of(first).then(Effect.of(second))
            self.assertEqual(values(joined), plain_values(first + second))

    def test_400_items_and_one_more(self):
        puts, takes = Effect.of("a" * 200), Effect.of("A" * 200)
        self.assert_values(puts.then(takes), "a" * 200, "a" * 200, 0)
        self.assert_values(takes.then(puts), "a" * 200, "a" * 200, 200)
        self.assert_limit(400, puts.then, takes, Effect.of("b"))
        self.assert_limit(400, Effect.of("b").then, puts, takes)
        self.assert_limit(400, Effect.of("a" * 400).then, Effect.of("A"))
        self.assert_limit(400, Effect.of("A" * 400).then, Effect.of("A" * 400))
        self.assertEqual(Effect.identity().then(*[Effect.of("aA")] * 200).core, 0)
        self.assert_limit(400, Effect.identity().then, *[Effect.of("a")] * 401)
        self.assert_limit(400, Effect.of("b" * 100).then, Effect.of("A" * 250), Effect.of("A" * 250))
        self.assert_limit(400, Effect.of("B" * 100).then, Effect.of("a" * 250), Effect.of("a" * 250))

    def test_values_that_are_no_effects(self):
        effect = Effect.of("aB")
        others = [value for value in values_of_other_kinds() if not isinstance(value, Effect)]
        for value in others + ["", "aB", "Effect('', '', 0)", ("", "", 0), Effect, LeakyQueue("a")]:
            with self.subTest(value=value):
                self.assert_wrong_index(0, value)
                self.assert_wrong_index(0, value, effect)
                self.assert_wrong_index(1, effect, value, None)
                self.assert_wrong_index(3, effect, effect, effect, value, effect)

    def assert_wrong_index(self, index, *arguments):
        with self.assertRaises(InvalidEffect) as caught:
            Effect.of("a").then(*arguments)
        self.assert_same(index, caught.exception.index)

    def test_a_wrong_effect_comes_before_the_limit(self):
        with self.assertRaises(InvalidEffect) as caught:
            Effect.of("a" * 400).then(Effect.of("a" * 400), None)
        self.assert_same(1, caught.exception.index)

    def test_by_position_only(self):
        with self.assertRaises(TypeError):
            Effect.of("a").then(effects=Effect.of("a"))


class Equality(EffectCase):
    def test_the_three_values(self):
        effects = [("a", "a", 0), ("a", "a", 1), ("a", "aa", 0), ("b", "a", 1), ("", "a", 0), ("", "", 0), ("aa", "a", 1)]
        for first, second in itertools.product(effects, repeat=2):
            self.assertIs(Effect(*first) == Effect(*second), first == second)
            self.assertIs(Effect(*first) != Effect(*second), first != second)

    def test_other_values(self):
        effect = Effect("a", "b", 1)
        others = [None, True, 1, "a", "", ("a", "b", 1), ["a", "b", 1], {"a": 1}, b"a", "Effect('a', 'b', 1)", Effect]
        for value in others + [LeakyQueue("a")]:
            self.assertIs(effect == value, False)
            self.assertIs(value == effect, False)
            self.assertIs(effect != value, True)


if __name__ == "__main__":
    unittest.main()

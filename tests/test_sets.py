"""Point 12, sets of queues: leakyqueue/sets.py."""

import copy
import itertools
import random
import unittest

from leakyqueue.errors import InvalidProgram, InvalidSet, InvalidWord
from leakyqueue.sets import contains, image, includes, is_invariant, missing_word, normal_set
from plain import plain_result, subsequences
from plain_sets import (
    all_atoms, plain_contains, plain_missing, plain_normal, plain_normal_set, random_pattern, random_set, results_on,
    wrong_patterns,
)
from samples import (
    CheckedCase, few_wrong_programs, few_wrong_words, random_string, strings_of, values_of_other_kinds, wrong_programs,
    wrong_words,
)

A, B, C = ("optional", "a"), ("optional", "b"), ("optional", "c")
ALL_A, ALL_B, ALL_AB, ALL_BC = ("repeat", "a"), ("repeat", "b"), ("repeat", "ab"), ("repeat", "bc")
EVERYTHING = ("repeat", "abcdefgh")


def patterns_of(letters, longest):
    """All patterns of few letters up to a number of atoms."""
    for length in range(longest + 1):
        for atoms in itertools.product(all_atoms(letters), repeat=length):
            yield list(atoms)


def calls_with(value):
    """Calls of every function with this value as the first set that is no set."""
    return [
        (contains, (value, "a")), (contains, (value, None)), (includes, (value, [])), (includes, (value, None)),
        (includes, ([], value)), (missing_word, (value, [])), (missing_word, (value, None)), (missing_word, ([], value)),
        (normal_set, (value,)), (image, (value, "a")), (image, (value, "i")), (is_invariant, (value,)),
        (is_invariant, (value, "a")), (is_invariant, (value, "i", None)),
    ]


class SetCase(CheckedCase):
    def assert_missing(self, first, second, letters):
        """Both functions tell whether a word is missing, as trying all words does."""
        before = copy.deepcopy((first, second))
        expected = plain_missing(first, second, letters)
        word = missing_word(first, second)
        self.assertIs(includes(first, second), expected is None)
        if expected is None:
            self.assertIsNone(word)
        else:
            self.assertIs(word.__class__, str)
            self.assertLessEqual(len(word), 4000)
            self.assertTrue(plain_contains(second, word))
            self.assertFalse(plain_contains(first, word))
        self.assertEqual((first, second), before)


class Examples(unittest.TestCase):
    def test_document_example(self):
        s = [[('optional', 'a'), ('repeat', 'ab'), ('optional', 'c')]]
        self.assertEqual(
            [contains(s, 'abbac'), contains(s, 'ca'), normal_set(s), image(s, 'Cd'), includes(s, [[('optional', 'c')]])],
            [True, False, [[('repeat', 'ab'), ('optional', 'c')]], [[('optional', 'd')]], True],
        )


class Contains(SetCase):
    def test_all_short_words(self):
        words = list(strings_of("abc", 4))
        for pattern in patterns_of("ab", 2):
            for word in words:
                self.assertIs(contains([pattern], word), plain_contains([pattern], word))

    def test_drawn_sets(self):
        source = random.Random(60)
        answers = []
        for count in range(1500):
            queues = random_set(source, "abc", 3, 7)
            word = random_string(source, "abc", 8)
            answers.append(plain_contains(queues, word))
            self.assertIs(contains(queues, word), answers[-1])
        self.assertGreater(min(answers.count(True), answers.count(False)), 200)

    def test_the_empty_set_and_the_empty_pattern(self):
        for word in ["", "a", "h" * 4000]:
            self.assertIs(contains([], word), False)
            self.assertIs(contains([[]], word), word == "")
            self.assertIs(contains([[], [EVERYTHING]], word), True)
        self.assertIs(contains([[A]], ""), True)
        self.assertIs(contains([[ALL_A]], ""), True)

    def test_long_words(self):
        for length in [399, 400, 401, 3999, 4000]:
            self.assertIs(contains([[ALL_A]], "a" * length), True)
            self.assertIs(contains([[ALL_A]], "a" * (length - 1) + "b"), False)
            self.assertIs(contains([[ALL_A, B]], "a" * (length - 1) + "b"), True)
            self.assertIs(contains([[ALL_A, B]], "b" + "a" * (length - 1)), False)
        self.assertIs(contains([[A] * 20], "a" * 20), True)
        self.assertIs(contains([[A] * 20], "a" * 21), False)
        self.assertIs(contains([[ALL_A, ALL_B] * 10], ("a" * 200 + "b" * 200) * 10), True)
        self.assertIs(contains([[ALL_A, ALL_B] * 10], "b" + ("a" * 199 + "b" * 200) * 10), False)

    def test_words_that_are_too_long(self):
        for value in ["a" * 4001, "abcdefgh" * 501]:
            self.assert_error(InvalidWord, "value", value, contains, [[EVERYTHING]], value)

    def test_wrong_words(self):
        for value in wrong_words() + ["a" * 3999 + "A"]:
            if not isinstance(value, str) or set(value) - set("abcdefgh"):
                with self.subTest(value=value):
                    self.assert_error(InvalidWord, "value", value, contains, [[EVERYTHING]], value)
                    self.assert_error(InvalidWord, "value", value, contains, [], value)

    def test_by_name(self):
        self.assertIs(contains(word="ab", queues=[[A, B]]), True)
        self.assertIs(contains(word="ba", queues=[[A, B]]), False)


class Inclusion(SetCase):
    def test_all_short_patterns(self):
        patterns = list(patterns_of("ab", 2))
        for first in patterns:
            for second in patterns:
                self.assert_missing([first], [second], "ab")

    def test_drawn_sets(self):
        source = random.Random(61)
        answers = []
        for count in range(800):
            letters = source.choice(["ab", "abc"])
            first, second = random_set(source, letters, 4, 6), random_set(source, letters, 2, 4)
            self.assert_missing(first, second, letters)
            answers.append(includes(first, second))
        self.assertGreater(min(answers.count(True), answers.count(False)), 100)

    def test_like_sets(self):
        """Sets that differ by an atom."""
        source = random.Random(62)
        answers = []
        for count in range(500):
            pattern = random_pattern(source, "abc", 7)
            other = list(pattern)
            at = source.randint(0, len(other))
            other[at:at + source.randint(0, 1)] = random_pattern(source, "abc", 1)
            self.assert_missing([pattern], [other], "abc")
            answers.append(includes([pattern], [other]))
        self.assertGreater(min(answers.count(True), answers.count(False)), 100)

    def test_drawn_words_of_the_second_set(self):
        source = random.Random(63)
        for count in range(150):
            first, second = random_set(source, "abcd", 5, 20), random_set(source, "abcd", 5, 20)
            words = [self.drawn_word(source, pattern) for pattern in second for k in range(5)]
            if includes(first, second):
                self.assertTrue(all([contains(first, word) for word in words]))
            else:
                word = missing_word(first, second)
                self.assertTrue(plain_contains(second, word))
                self.assertFalse(plain_contains(first, word))

    def drawn_word(self, source, pattern):
        return "".join([
            random_string(source, items, 1 if kind == "optional" else 30) for kind, items in pattern
        ])

    def test_a_set_includes_itself_and_its_parts(self):
        source = random.Random(64)
        for count in range(150):
            queues = random_set(source, "abcdefgh", 20, 20)
            self.assertIs(includes(queues, queues), True)
            self.assertIsNone(missing_word(queues, queues))
            self.assertIs(includes(queues, []), True)
            for pattern in queues:
                self.assertIs(includes(queues, [pattern]), True)
                self.assertIsNone(missing_word(queues, [pattern]))
                self.assertIs(includes([[EVERYTHING]], [pattern]), True)
                self.assertIs(includes(queues, [[]]), True)
            if queues:
                self.assertIs(includes([], queues), False)

    def test_patterns_of_20_atoms(self):
        seven = [("repeat", "abcdefgh".replace(item, "")) for item in "abcdefgh"]
        for first, second in [
            ([[EVERYTHING] * 20], [[EVERYTHING] * 20]),
            ([[A] * 20], [[ALL_A] * 20]),
            ([(seven * 3)[:20]], [[EVERYTHING] * 20]),
            ([(seven * 3)[:20]] * 20, [[EVERYTHING, A] * 10]),
            ([[A, B] * 10], [[ALL_AB] * 20]),
            ([[A] * 20], [[A] * 20]),
            ([[A] * 19], [[A] * 20]),
            ([[ALL_A, ALL_B] * 10], [[ALL_B, ALL_A] * 10]),
            ([[ALL_A, ALL_B] * 10], [[ALL_B, ALL_A] * 9 + [ALL_B]]),
            ([[ALL_AB, C] * 10], [[C, ALL_AB] * 10]),
        ]:
            self.assert_missing(first, second, "abcdefgh" if "h" in str(second) else "abc")

    def test_no_pattern_alone(self):
        """A pattern is included only if one pattern covers it, not by several ones together."""
        self.assertIs(includes([[A], [B]], [[A, B]]), False)
        self.assertIs(includes([[A, B], [B, A]], [[A, B]]), True)
        self.assertIs(includes([[ALL_A], [ALL_B], [ALL_A, ALL_B], [ALL_B, ALL_A]], [[ALL_AB]]), False)
        self.assertIs(includes([[ALL_A], [ALL_B]], [[ALL_A], [ALL_B], [A], [B], []]), True)

    def test_edges(self):
        self.assertIs(includes([], []), True)
        self.assertIsNone(missing_word([], []))
        self.assertIs(includes([], [[]]), False)
        self.assertEqual(missing_word([], [[]]), "")
        self.assertIs(includes([[]], [[]]), True)
        self.assertIs(includes([[A]], [[ALL_A]]), False)
        self.assertIs(includes([[ALL_A]], [[A]]), True)

    def test_by_name(self):
        self.assertIs(includes(second=[[A]], first=[[A, B]]), True)
        self.assertIs(includes(second=[[A, B]], first=[[A]]), False)
        self.assertIsNone(missing_word(second=[[A]], first=[[A, B]]))
        self.assertIn(missing_word(second=[[A, B]], first=[[A]]), ["b", "ab"])


class NormalSet(SetCase):
    def test_superfluous_atoms_in_any_order(self):
        source = random.Random(65)
        for count in range(800):
            pattern = random_pattern(source, source.choice(["ab", "abc", "abcdefgh"]), 20)
            expected = plain_normal(source, pattern)
            for k in range(3):
                self.assertEqual(plain_normal(source, pattern), expected)
            self.assertEqual(normal_set([pattern]), [expected])

    def test_all_short_patterns(self):
        source = random.Random(66)
        for pattern in patterns_of("ab", 4):
            self.assertEqual(normal_set([pattern]), [plain_normal(source, pattern)])

    def test_drawn_sets(self):
        source = random.Random(67)
        removed = 0
        for count in range(400):
            letters = source.choice(["ab", "abc"])
            queues = random_set(source, letters, 6, 4)
            before = copy.deepcopy(queues)
            normal = normal_set(queues)
            self.assertEqual(normal, plain_normal_set(queues, letters))
            removed += len(queues) > len(normal) > 1
            self.assertEqual(normal_set(normal), normal)
            self.assertIs(includes(normal, queues), True)
            self.assertIs(includes(queues, normal), True)
            self.assertEqual(queues, before)
        self.assertGreater(removed, 30)

    def test_pairs_of_short_patterns(self):
        patterns = list(patterns_of("ab", 2))
        for first in patterns:
            for second in patterns:
                self.assertEqual(normal_set([first, second]), plain_normal_set([first, second], "ab"))

    def test_the_same_words(self):
        self.assertEqual(normal_set([[C], [A, ALL_A], [ALL_A, A], [B]]), [[C], [ALL_A], [B]])
        self.assertEqual(normal_set([[A], [A]]), [[A]])
        self.assertEqual(normal_set([[A, B], [A], [B, A], [B], [A, B]]), [[A, B], [B, A]])

    def test_edges(self):
        self.assertEqual(normal_set([]), [])
        self.assertEqual(normal_set([[]]), [[]])
        self.assertEqual(normal_set([[], [A]]), [[A]])
        self.assertEqual(normal_set([[], []]), [[]])
        self.assertEqual(normal_set([[ALL_A] * 20] * 20), [[ALL_A]])
        self.assertEqual(normal_set([[A] * 20] * 20), [[A] * 20])
        self.assertEqual(normal_set([[A, ALL_AB, ALL_A, B, ALL_BC, C]]), [[ALL_AB, ALL_BC]])
        self.assertEqual(normal_set([[ALL_AB, C, ALL_AB]]), [[ALL_AB, C, ALL_AB]])
        self.assertEqual(normal_set(queues=[[A, ALL_A]]), [[ALL_A]])

    def test_every_list_is_new(self):
        queues = [[A], [B]]
        normal = normal_set(queues)
        normal[0].append(C)
        normal.append([])
        self.assertEqual(queues, [[A], [B]])
        self.assertEqual(normal_set(queues), [[A], [B]])
        twice = [queues[0]] * 2 + [queues[1]]
        normal = normal_set(twice)
        queues[0].append(C)
        self.assertEqual(normal, [[A], [B]])


class Image(SetCase):
    def assert_image(self, queues, program, letters, longest):
        """The image contains a short word if and only if it is a possible result on a word of the set."""
        before = copy.deepcopy(queues)
        found = image(queues, program)
        self.assertEqual(queues, before)
        words = [word for word in strings_of(letters, longest) if plain_contains(queues, word)]
        results = results_on(words, program)
        for result in results:
            self.assertTrue(plain_contains(found, result), (queues, program, result))
        # A result needs no other old items than the taken ones and those that are left.
        shorter = longest - len([step for step in program if step.isupper()])
        for word in strings_of(letters, shorter):
            if plain_contains(found, word):
                self.assertIn(word, results)
        self.assertEqual(normal_set(found), found)
        return found

    def test_all_short_patterns(self):
        for pattern in patterns_of("ab", 2):
            for program in strings_of("abAB", 2):
                self.assert_image([pattern], program, "ab", 4)

    def test_drawn_sets(self):
        source = random.Random(68)
        sizes = []
        for count in range(300):
            queues = random_set(source, "abc", 4, 4)
            program = random_string(source, source.choice(["aA", "abAB", "aAAB", "ABC"]), 4)
            sizes.append(len(self.assert_image(queues, program, "abc", 5)))
        self.assertLessEqual({0, 1, 2}, set(sizes))

    def test_step_by_step(self):
        source = random.Random(69)
        for count in range(500):
            queues = normal_set(random_set(source, "abcd", 5, 8))
            program = random_string(source, "abcdABCD", 8)
            whole = image(queues, program)
            stepwise = queues
            for step in program:
                stepwise = image(stepwise, step)
            # The words are the same; which of several patterns comes first may differ.
            self.assertIs(includes(whole, stepwise), True)
            self.assertIs(includes(stepwise, whole), True)
            self.assertEqual(sorted(whole), sorted(stepwise))

    def test_the_results_of_the_single_patterns(self):
        source = random.Random(70)
        for count in range(400):
            queues = random_set(source, "abc", 6, 4)
            program = random_string(source, "abcABC", 4)
            single = [pattern for queue in queues for pattern in image([queue], program)]
            self.assertEqual(image(queues, program), normal_set(single))

    def test_the_order_of_the_patterns_as_they_are_given(self):
        """A pattern that another one covers can have the same results, and then it comes first."""
        self.assertEqual(normal_set([[A], [C, A], [B, A]]), [[C, A], [B, A]])
        self.assertEqual(image([[A], [C], [B, A]], "A"), [[]])
        self.assertEqual(image([[A, B], [A, C], [C, A, B]], "A"), [[B], [C]])
        self.assertEqual(image(normal_set([[A, B], [A, C], [C, A, B]]), "A"), [[C], [B]])

    def test_programs_that_fail(self):
        self.assertEqual(image([[A]], "B"), [])
        self.assertEqual(image([[A]], "AA"), [])
        self.assertEqual(image([[A]], "bA"), [[B]])
        self.assertEqual(image([[A]], "bBA"), [])
        self.assertEqual(image([[ALL_A]], "A" * 400), [[ALL_A]])
        self.assertEqual(image([[ALL_A], [B]], "A"), [[ALL_A]])
        self.assertEqual(image([[ALL_A], [B]], "B"), [[]])
        self.assertEqual(image([], "a"), [])
        self.assertEqual(image([], "A"), [])
        self.assertEqual(image([[]], "A"), [])

    def test_programs_that_only_put_or_only_take(self):
        self.assertEqual(image([[]], ""), [[]])
        self.assertEqual(image([[A]], ""), [[A]])
        self.assertEqual(image([[A, ALL_A]], ""), [[ALL_A]])
        self.assertEqual(image([[]], "abc"), [[A, B, C]])
        self.assertEqual(image([[ALL_AB]], "abc"), [[ALL_AB, C]])
        self.assertEqual(image([[ALL_AB]], "aca"), [[ALL_AB, C, A]])
        self.assertEqual(image([[A, B, C]], "AC"), [[]])
        self.assertEqual(image([[A, ALL_BC, A]], "B"), [[ALL_BC, A]])
        self.assertEqual(image([[A, ALL_BC, A]], "BA"), [[]])

    def test_20_and_21_atoms(self):
        self.assertEqual(image([[A] * 20], ""), [[A] * 20])
        self.assertEqual(image([[A] * 19], "b"), [[A] * 19 + [B]])
        self.assert_limit(20, image, [[A] * 20], "b")
        self.assert_limit(20, image, [[]], "ab" * 10 + "a")
        self.assertEqual(image([[]], "ab" * 10), [[A, B] * 10])
        self.assert_limit(20, image, [[]], "a" * 400)
        self.assert_limit(20, image, [[B], [A] * 20], "c")
        self.assert_limit(20, image, [[A] * 20, [B]], "c")

    def test_atoms_that_are_dropped_again(self):
        self.assertEqual(image([[A] * 20], "bA"), [[A] * 19 + [B]])
        self.assertEqual(image([[A] * 20], "b" * 20 + "A" * 20), [[B] * 20])
        self.assertEqual(image([[ALL_A]], "a" * 400), [[ALL_A]])
        self.assertEqual(image([[A, C] * 9 + [ALL_AB]], "ab" * 200), [[A, C] * 9 + [ALL_AB]])
        self.assertEqual(image([[A] * 20], "b" * 40 + "A" * 20 + "B" * 20), [[B] * 20])
        self.assertEqual(image([[A] * 20 for k in range(20)], "c" * 200 + "C" * 180), [[C] * 20])

    def test_patterns_that_another_one_covers(self):
        """A pattern with too many atoms does not count if it is not returned."""
        self.assertEqual(image([[A] * 20, [ALL_AB]], "b"), [[ALL_AB]])
        self.assertEqual(image([[ALL_AB], [A] * 20], "b"), [[ALL_AB]])
        self.assertEqual(image([[ALL_A, ALL_B] * 10, [EVERYTHING]], "cd" * 100), [[EVERYTHING]])
        self.assert_limit(20, image, [[A] * 20, [ALL_A]], "bb" + "c" * 18)
        self.assertEqual(image([[A] * 20, [ALL_A]], "b" + "c" * 18), [[ALL_A, B] + [C] * 18])

    def test_sets_of_20_patterns_and_programs_of_400_steps(self):
        source = random.Random(71)
        for count in range(5):
            queues = [random_pattern(source, "abcdefgh", 20) + [EVERYTHING] for k in range(20)]
            queues = [pattern[-20:] for pattern in queues]
            program = "".join([source.choice("abcdefghABCDEFGH") for k in range(400)])
            self.assertEqual(image(queues, program), [[EVERYTHING]])
            self.assertEqual(image(queues, "A" * 400), [[EVERYTHING]])

    def test_every_list_is_new(self):
        queues = [[A], [B]]
        for program, expected in [("", [[A], [B]]), ("c", [[A, C], [B, C]])]:
            found = image(queues, program)
            found[0].append(C)
            found.append([])
            self.assertEqual(queues, [[A], [B]])
            self.assertEqual(image(queues, program), expected)

    def test_wrong_programs(self):
        for value in wrong_programs():
            with self.subTest(value=value):
                self.assert_error(InvalidProgram, "value", value, image, [[A]], value)
                self.assert_error(InvalidProgram, "value", value, image, [[A] * 20], value)

    def test_by_name(self):
        self.assertEqual(image(program="b", queues=[[A]]), [[A, B]])


class Invariant(SetCase):
    def test_drawn_sets(self):
        source = random.Random(72)
        answers = []
        for count in range(800):
            queues = random_set(source, "ab", 4, 3) + [[ALL_AB]] * source.randrange(2)
            programs = [random_string(source, "aabbAB", 3) for k in range(source.randint(0, 3))]
            expected = all([
                plain_missing(queues, image(queues, program), "ab") is None for program in programs
            ])
            answers.append((len(programs), expected))
            self.assertIs(is_invariant(queues, *programs), expected)
        for many in range(4):
            self.assertIn((many, True), answers)
        self.assertGreater(len([1 for many, expected in answers if not expected]), 50)

    def test_against_results_on_words(self):
        source = random.Random(73)
        for count in range(150):
            queues = random_set(source, "ab", 3, 3)
            program = random_string(source, "abAB", 3)
            words = [word for word in strings_of("ab", 5) if plain_contains(queues, word)]
            results = results_on(words, program)
            leaving = [word for word in results if not plain_contains(queues, word)]
            self.assertIs(is_invariant(queues, program), leaving == [])

    def test_edges(self):
        self.assertIs(is_invariant([]), True)
        self.assertIs(is_invariant([[A]]), True)
        self.assertIs(is_invariant([[A]], ""), True)
        self.assertIs(is_invariant([], "a", "A"), True)
        self.assertIs(is_invariant([[]], "A"), True)
        self.assertIs(is_invariant([[]], "a"), False)
        self.assertIs(is_invariant([[ALL_A]], "a", "A", "aA", "Aa"), True)
        self.assertIs(is_invariant([[ALL_A]], "a", "b"), False)
        self.assertIs(is_invariant([[ALL_A]], "b", "a"), False)
        self.assertIs(is_invariant([[ALL_A]], "B", "bB"), True)
        self.assertIs(is_invariant([[A, B], [B, A]], "AAb"), True)
        self.assertIs(is_invariant([[A], [B]], "Ab", "Ba"), True)
        self.assertIs(is_invariant(queues=[[A]]), True)

    def test_images_of_more_than_20_atoms(self):
        self.assertIs(is_invariant([[A] * 20], "b"), False)
        self.assertIs(is_invariant([[A] * 20], "a"), False)
        self.assertIs(is_invariant([[ALL_A]], "a" * 400), True)
        self.assertIs(is_invariant([[EVERYTHING]], "abcdefgh" * 50), True)
        self.assertIs(is_invariant([[A, B] * 10, [ALL_AB]], "ab" * 200), True)
        self.assertIs(is_invariant([[A, B] * 10, [ALL_AB]], "ab" * 199 + "c"), False)
        self.assertIs(is_invariant([[A, B] * 10], "ab" * 10), False)

    def test_wrong_programs(self):
        for value in wrong_programs():
            with self.subTest(value=value):
                self.assert_error(InvalidProgram, "value", value, is_invariant, [[A]], value)
        for value in few_wrong_programs():
            self.assert_error(InvalidProgram, "value", value, is_invariant, [[A]], "a", value, "b", None)
            # An earlier program under which the set is not invariant does not hide it.
            self.assert_error(InvalidProgram, "value", value, is_invariant, [[A]], "b", "b", value)

    def test_arguments_stay(self):
        queues = [[A, ALL_A], [B]]
        is_invariant(queues, "a", "bA")
        self.assertEqual(queues, [[A, ALL_A], [B]])


class WrongSets(SetCase):
    def assert_invalid(self, value, index):
        for call, arguments in calls_with(value):
            before = copy.deepcopy(arguments)
            with self.assertRaises(InvalidSet) as caught:
                call(*arguments)
            self.assertEqual(caught.exception.index, index)
            self.assertIs(caught.exception.index.__class__, index.__class__)
            self.assertEqual(arguments, before)

    def test_values_of_other_kinds(self):
        values = [value for value in values_of_other_kinds() if not isinstance(value, list)]
        for value in values + ["", "a", "none", "{ab}", (), ([A],), {"a": [A]}]:
            with self.subTest(value=value):
                self.assert_invalid(value, None)

    def test_wrong_patterns(self):
        for pattern in wrong_patterns():
            with self.subTest(pattern=pattern):
                self.assert_invalid([pattern], 0)
                self.assert_invalid([[], [A], pattern], 2)
                self.assert_invalid([[ALL_A], pattern, None, pattern], 1)

    def test_20_and_21_patterns(self):
        for pattern in [[], [A], [ALL_AB]]:
            self.assertEqual(normal_set([pattern] * 20), [pattern])
            self.assert_invalid([pattern] * 21, None)
        # The number is checked before the items.
        self.assert_invalid([None] * 21, None)
        self.assert_invalid([[A]] * 19 + [None], 19)

    def test_20_and_21_atoms(self):
        for atom in [A, ALL_AB]:
            self.assertIs(includes([[atom] * 20], [[atom] * 20]), True)
            self.assert_invalid([[atom] * 20, [atom] * 21], 1)

    def test_every_atom(self):
        for item in "abcdefgh":
            self.assertIs(contains([[("optional", item)]], item), True)
        for length in range(1, 9):
            for items in itertools.combinations("abcdefgh", length):
                self.assertIs(contains([[("repeat", "".join(items))]], "".join(items) * 2), True)

    def test_the_leftmost_wrong_argument(self):
        for call in [includes, missing_word]:
            self.assert_error(InvalidSet, "index", None, call, None, [None])
            self.assert_error(InvalidSet, "index", 0, call, [None], None)
            self.assert_error(InvalidSet, "index", 1, call, [[], None], [None])
            self.assert_error(InvalidSet, "index", 2, call, [[]], [[], [], 1])
        for value in few_wrong_words():
            self.assert_error(InvalidSet, "index", 0, contains, [value], value)


class Subsequences(SetCase):
    def test_sets_contain_what_remains_after_losses(self):
        source = random.Random(74)
        for count in range(100):
            queues = random_set(source, "abc", 3, 4)
            for word in strings_of("abc", 4):
                if contains(queues, word):
                    self.assertTrue(all([contains(queues, part) for part in subsequences(word)]))

    def test_the_image_of_one_word(self):
        """The subsequences of a word are a set; its image are the subsequences of the best result."""
        source = random.Random(75)
        for count in range(300):
            queue = random_string(source, "abc", 8)
            program = random_string(source, "abcABC", 8)
            best = plain_result(program, queue)
            expected = [] if best is None else [[("optional", item) for item in best]]
            self.assertEqual(image([[("optional", item) for item in queue]], program), expected)


if __name__ == "__main__":
    unittest.main()

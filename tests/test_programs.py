"""Point 2, programs: leakyqueue/programs.py."""

import unittest

from leakyqueue.errors import InvalidProgram
from leakyqueue.programs import is_program, join, put_counts, puts, steps, takes
from samples import (
    ALL_STEPS, ITEM_LETTERS, LETTERS_BESIDE, OTHER_CHARACTERS, TAKE_LETTERS, CheckedCase,
    strings_of, wrong_programs,
)


def read_steps(program):
    """The steps of a program, read letter by letter from tables."""
    found = []
    for letter in program:
        if letter in ITEM_LETTERS:
            found.append(("put", letter))
        else:
            found.append(("take", ITEM_LETTERS[TAKE_LETTERS.index(letter)]))
    return found


def read_items(program, word):
    return "".join([item for kind, item in read_steps(program) if kind == word])


def read_put_counts(program):
    found = read_steps(program)
    words = [word for word, item in found]
    return [words[:index].count("put") for index in range(len(words)) if words[index] == "take"]


def some_programs():
    yield from strings_of("abAB", 5)
    yield from strings_of(ALL_STEPS, 2)
    for first in range(len(ALL_STEPS)):
        yield "".join([ALL_STEPS[(first + 5 * k) % 16] for k in range(16)])
    yield ALL_STEPS * 25
    yield "a" * 400
    yield "H" * 400


class IsProgram(CheckedCase):
    def test_programs(self):
        for value in ["", "aA", "Aa", "abcABC", ALL_STEPS] + ITEM_LETTERS + TAKE_LETTERS:
            with self.subTest(value=value):
                self.assertIs(is_program(value), True)

    def test_longest_program(self):
        for letter in ["a", "h", "A", "H"]:
            self.assertIs(is_program(letter * 400), True)
            self.assertIs(is_program(letter * 401), False)
        self.assertIs(is_program(ALL_STEPS * 25), True)
        self.assertIs(is_program(ALL_STEPS * 25 + "a"), False)

    def test_wrong_values(self):
        for value in wrong_programs():
            with self.subTest(value=value):
                self.assertIs(is_program(value), False)

    def test_wrong_character_in_a_long_string(self):
        for character in LETTERS_BESIDE + OTHER_CHARACTERS:
            for position in [0, 1, 200, 398, 399]:
                text = "a" * position + character + "H" * (399 - position)
                self.assertIs(is_program(text), False)

    def test_by_name(self):
        self.assertIs(is_program(value="aB"), True)
        self.assertIs(is_program(value=["aB"]), False)


class Readings(CheckedCase):
    def test_document_example(self):
        self.assertEqual(
            [takes('aAbbC'), puts('aAbbC'), put_counts('aAbbC'), list(steps('aB')), join('ab', '', 'C')],
            ['ac', 'abb', [1, 3], [('put', 'a'), ('take', 'b')], 'abC'],
        )

    def test_plain_reading(self):
        for program in some_programs():
            with self.subTest(program=program):
                self.assert_same(read_items(program, "take"), takes(program))
                self.assert_same(read_items(program, "put"), puts(program))
                self.assertEqual(put_counts(program), read_put_counts(program))
                self.assertEqual(list(steps(program)), read_steps(program))

    def test_empty_program(self):
        self.assertEqual([takes(""), puts(""), put_counts(""), list(steps(""))], ["", "", [], []])

    def test_only_puts_and_only_takes(self):
        self.assertEqual([takes("hab"), puts("hab"), put_counts("hab")], ["", "hab", []])
        self.assertEqual([takes("HAB"), puts("HAB"), put_counts("HAB")], ["hab", "", [0, 0, 0]])

    def test_by_name(self):
        self.assertEqual(takes(program="aAbbC"), "ac")
        self.assertEqual(puts(program="aAbbC"), "abb")
        self.assertEqual(put_counts(program="aAbbC"), [1, 3])
        self.assertEqual(list(steps(program="aB")), [("put", "a"), ("take", "b")])

    def test_every_list_is_new(self):
        first = put_counts("aA")
        first.append(9)
        self.assertEqual(put_counts("aA"), [1])
        empty = put_counts("a")
        empty.append(9)
        self.assertEqual(put_counts("a"), [])

    def test_wrong_programs(self):
        for function in [takes, puts, put_counts]:
            for value in wrong_programs():
                with self.subTest(function=function.__name__, value=value):
                    self.assert_error(InvalidProgram, "value", value, function, value)
                    self.assert_error(InvalidProgram, "value", value, function, program=value)


class Steps(CheckedCase):
    def test_one_step_at_a_time(self):
        iteration = iter(steps("aBa"))
        self.assertEqual([next(iteration), next(iteration), next(iteration)], [("put", "a"), ("take", "b"), ("put", "a")])
        with self.assertRaises(StopIteration):
            next(iteration)

    def test_each_step_is_a_tuple(self):
        for step in steps("aBcD"):
            self.assertIs(step.__class__, tuple)

    def test_two_iterations_are_independent(self):
        first, second = iter(steps("aB")), iter(steps("aB"))
        self.assertEqual(next(first), ("put", "a"))
        self.assertEqual(next(first), ("take", "b"))
        self.assertEqual(next(second), ("put", "a"))

    def test_the_error_is_raised_when_the_iteration_begins(self):
        for value in wrong_programs():
            with self.subTest(value=value):
                by_position = steps(value)
                self.assert_error(InvalidProgram, "value", value, lambda: next(iter(by_position)))
                by_name = steps(program=value)
                self.assert_error(InvalidProgram, "value", value, lambda: next(iter(by_name)))


class Join(CheckedCase):
    def test_no_program_one_and_several(self):
        self.assert_same("", join())
        for program in ["", "a", "A", "aAbbC", ALL_STEPS * 25]:
            self.assert_same(program, join(program))
        self.assertEqual(join("ab", "BA", "", "c"), "abBAc")
        self.assertEqual(join("", "", ""), "")
        self.assertEqual(join(*ALL_STEPS), ALL_STEPS)

    def test_plain_reading(self):
        short = list(strings_of("aB", 2))
        for first in short:
            for second in short:
                for third in short:
                    self.assertEqual(join(first, second, third), first + second + third)

    def test_400_steps_together(self):
        self.assertEqual(join("a" * 400), "a" * 400)
        self.assertEqual(join("a" * 400, "", ""), "a" * 400)
        self.assertEqual(join("a" * 200, "A" * 200), "a" * 200 + "A" * 200)
        self.assertEqual(join(*["B"] * 400), "B" * 400)

    def test_401_steps_together(self):
        for programs in [["a" * 400, "A"], ["A", "a" * 400], ["a" * 200, "", "B" * 201], ["B"] * 401, ["h" * 400] * 3]:
            self.assert_limit(400, join, *programs)

    def test_wrong_programs(self):
        for value in wrong_programs():
            with self.subTest(value=value):
                self.assert_error(InvalidProgram, "value", value, join, value)
                self.assert_error(InvalidProgram, "value", value, join, "aB", value)
                self.assert_error(InvalidProgram, "value", value, join, value, "aB", "")

    def test_the_first_wrong_program(self):
        for value in wrong_programs():
            with self.subTest(value=value):
                self.assert_error(InvalidProgram, "value", value, join, "aB", value, "i", None)

    def test_a_wrong_program_comes_before_the_limit(self):
        self.assert_error(InvalidProgram, "value", None, join, "a" * 400, "a" * 400, None)
        too_long = "a" * 401
        self.assert_error(InvalidProgram, "value", too_long, join, "a" * 400, too_long)

    def test_by_position_only(self):
        with self.assertRaises(TypeError):
            join(programs="ab")


if __name__ == "__main__":
    unittest.main()

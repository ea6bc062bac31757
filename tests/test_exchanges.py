"""Point 8, exchanges: leakyqueue/exchanges.py."""

import itertools
import random
import unittest

from leakyqueue.errors import InvalidExchange, InvalidProgram
from leakyqueue.exchanges import check_path, distance, exchange_path, exchanged, exchanges, normal_program
from plain import counts_of, merges, plain_values
from samples import (
    ALL_STEPS, CheckedCase, few_wrong_programs, random_string, strings_of, values_of_other_kinds, wrong_programs,
)


def swapped(program, index):
    """The program with the step at this index and the next one in the other order."""
    steps = list(program)
    steps[index], steps[index + 1] = steps[index + 1], steps[index]
    return "".join(steps)


def plain_exchanges(program):
    """The indexes at which swapping a put and a take keeps takes, puts and core."""
    wanted = plain_values(program)
    return [
        index for index in range(len(program) - 1)
        if program[index].islower() != program[index + 1].islower() and plain_values(swapped(program, index)) == wanted
    ]


def plain_distances(program):
    """All programs that can be reached by exchanges that keep the effect, with the fewest exchanges to each."""
    distances = {program: 0}
    layer = [program]
    while layer:
        longer = []
        for reached in layer:
            for index in plain_exchanges(reached):
                other = swapped(reached, index)
                if other not in distances:
                    distances[other] = distances[reached] + 1
                    longer.append(other)
        layer = longer
    return distances


def plain_normal(program):
    """The normal program, word by word as the document describes it."""
    taken, given, core = plain_values(program)
    normal = taken[:core].upper()
    done = 0
    for item in taken[core:]:
        place = given.index(item, done)
        normal += given[done:place + 1] + item.upper()
        done = place + 1
    return normal + given[done:]


def plain_check(first, second, path):
    """Whether the indexes can be exchanged in turn and lead to the second program."""
    program = first
    for index in path:
        if index not in plain_exchanges(program):
            return False
        program = swapped(program, index)
    return program == second


def short_programs():
    yield from strings_of("abAB", 4)
    source = random.Random(20)
    for count in range(250):
        yield random_string(source, source.choice(["aA", "abAB", "aabAB", "abABB", "abcABC"]), 10)


def long_programs():
    source = random.Random(21)
    for letters in ["aA", "aaA", "aAA", "abAB", "abcABC", ALL_STEPS]:
        yield "".join([source.choice(letters) for k in range(400)])
    yield "a" * 200 + "A" * 200
    yield "A" * 200 + "a" * 200
    yield "aA" * 200
    yield "a" * 400
    yield "A" * 400
    yield "ab" * 100 + "CD" * 100


class Examples(unittest.TestCase):
    def test_document_example(self):
        self.assertEqual(
            [normal_program('abBA'), exchanges('abB'), exchanges('aAb'), exchanged('aAb', 1), distance('cdA', 'Acd'),
             exchange_path('cA', 'Ac')],
            ['BaAb', [], [1], 'abA', 2, [0]],
        )


class NormalProgram(CheckedCase):
    def test_the_words_of_the_document(self):
        for program in short_programs():
            with self.subTest(program=program):
                self.assert_same(plain_normal(program), normal_program(program))
                self.assertEqual(plain_values(normal_program(program)), plain_values(program))

    def test_equivalent_programs_have_the_same_one(self):
        for taken, given in [("aab", "abab"), ("abab", "bba"), ("aaa", "aaaa"), ("", "ab"), ("ab", ""), ("abc", "cab")]:
            normal = {}
            for program in merges(taken, given):
                normal.setdefault(plain_values(program), set()).add(normal_program(program))
            for found in normal.values():
                self.assertEqual(len(found), 1)
            self.assertEqual(len(set().union(*normal.values())), len(normal))

    def test_long_programs(self):
        for program in long_programs():
            normal = normal_program(program)
            self.assertEqual(normal, plain_normal(program))
            self.assertEqual(plain_values(normal), plain_values(program))
            self.assertEqual(normal_program(normal), normal)

    def test_edges(self):
        self.assertEqual([normal_program(""), normal_program("ab"), normal_program("AB")], ["", "ab", "AB"])
        self.assertEqual(normal_program(program="abBA"), "BaAb")


class Exchanges(CheckedCase):
    def test_every_place(self):
        for program in short_programs():
            with self.subTest(program=program):
                expected = plain_exchanges(program)
                self.assertEqual(exchanges(program), expected)
                for index in range(-2, len(program) + 2):
                    if index in expected:
                        self.assert_same(swapped(program, index), exchanged(program, index))
                    else:
                        self.assert_error(InvalidExchange, "value", index, exchanged, program, index)

    def test_long_programs(self):
        self.assertEqual(exchanges("a" * 200 + "A" * 200), [199])
        self.assertEqual(exchanges("aA" * 200), list(range(1, 399, 2)))
        self.assertEqual(exchanges("aB" * 200), list(range(399)))
        self.assertEqual(exchanges("a" * 200 + "B" * 200), [199])
        self.assertEqual(exchanges("A" * 200 + "b" * 200), [199])
        self.assertEqual(exchanges("A" * 200 + "a" * 200), [])
        self.assertEqual(exchanges("a" * 400), [])
        self.assertEqual(exchanges("A" * 400), [])

    def test_some_places_of_long_programs(self):
        source = random.Random(22)
        for program in long_programs():
            found = exchanges(program)
            self.assertEqual(found, sorted(set(found)))
            wanted = plain_values(program)
            for index in source.sample(range(399), 12):
                other = swapped(program, index)
                mixed = program[index].islower() != program[index + 1].islower()
                self.assertIs(index in found, mixed and plain_values(other) == wanted)
                if index in found:
                    self.assertEqual(exchanged(program, index), other)

    def test_the_last_take_that_keeps_the_core(self):
        """An exchange that makes the core smaller is none, unless another take still comes too early."""
        self.assertEqual(exchanges("Aa"), [])
        self.assertEqual(exchanges("AAaa"), [])
        self.assertEqual(exchanges("AbaB"), [0, 2])
        # Two takes come too early for the core 0, and each of them may move to the back while the other one does.
        self.assertEqual(exchanges("AaAabB"), [0, 2])
        self.assertEqual(exchanges("aAAabB"), [0])
        self.assertEqual(exchanges("AaaAbB"), [2, 3])

    def test_every_list_is_new(self):
        first = exchanges("aAb")
        first.append(9)
        self.assertEqual(exchanges("aAb"), [1])
        empty = exchanges("")
        empty.append(9)
        self.assertEqual(exchanges(""), [])

    def test_indexes_of_other_kinds(self):
        for program in ["aBaB", "aAb", "", "a"]:
            others = [value for value in values_of_other_kinds() if value.__class__ is not int]
            for value in others + ["", "0", "1", [0], (1,), -1, len(program) - 1, len(program), 10 ** 199]:
                with self.subTest(program=program, value=value):
                    self.assert_error(InvalidExchange, "value", value, exchanged, program, value)

    def test_true_and_false_are_no_indexes(self):
        self.assertEqual([exchanged("aBaB", 0), exchanged("aBaB", 1)], ["BaaB", "aaBB"])
        for value in [True, False]:
            self.assert_error(InvalidExchange, "value", value, exchanged, "aBaB", value)

    def test_by_name(self):
        self.assertEqual(exchanges(program="aAb"), [1])
        self.assertEqual(exchanged(index=1, program="aAb"), "abA")


class Distances(CheckedCase):
    def assert_path(self, first, second, length):
        """The path has this length, and each of its exchanges keeps the effect."""
        path = exchange_path(first, second)
        self.assertIs(path.__class__, list)
        self.assert_same(length, distance(first, second))
        self.assertEqual(len(path), length)
        for index in path:
            self.assertIs(index.__class__, int)
        self.assertIs(plain_check(first, second, path), True)
        self.assertIs(check_path(first, second, path), True)

    def test_a_search_over_all_exchanges(self):
        """Equivalent programs are connected, and the distance is the fewest exchanges."""
        for taken, given in [("aab", "aba"), ("aba", "aab"), ("abb", "bab"), ("aaa", "aaa"), ("ab", "cdcd"), ("abab", "bb")]:
            programs = list(merges(taken, given))
            for first in programs:
                distances = plain_distances(first)
                for second in programs:
                    with self.subTest(first=first, second=second):
                        self.assertIs(second in distances, plain_values(first) == plain_values(second))
                        if second in distances:
                            self.assert_path(first, second, distances[second])
                        else:
                            self.assertIsNone(distance(first, second))
                            self.assertIsNone(exchange_path(first, second))

    def test_random_programs(self):
        source = random.Random(23)
        for count in range(120):
            first = random_string(source, source.choice(["aA", "abAB", "aabAB", "abABB"]), 9)
            distances = plain_distances(first)
            for second in source.sample(sorted(distances), min(len(distances), 8)):
                self.assert_path(first, second, distances[second])

    def test_programs_that_are_not_equivalent(self):
        for first, second in [("", "a"), ("a", "b"), ("Aa", "aA"), ("ab", "ba"), ("A", "B"), ("aAb", "Aab"), ("a", "aa")]:
            self.assertIsNone(distance(first, second))
            self.assertIsNone(exchange_path(first, second))
            for path in [[], [0], [0, 0], None]:
                self.assertIs(check_path(first, second, path), False)

    def test_a_program_and_itself(self):
        for program in ["", "a", "A", "abBA", "aB" * 200]:
            self.assert_same(0, distance(program, program))
            self.assertEqual(exchange_path(program, program), [])
            self.assertIs(check_path(program, program, []), True)

    def test_the_sum_of_the_differences(self):
        for program in list(short_programs()) + list(long_programs()):
            other = normal_program(program)
            counts = zip(counts_of(program), counts_of(other))
            self.assertEqual(distance(program, other), sum([abs(one - two) for one, two in counts]))

    def test_long_paths(self):
        first, second = "a" * 200 + "B" * 200, "B" * 200 + "a" * 200
        for start, end in [(first, second), (second, first)]:
            self.assertEqual(distance(start, end), 40000)
            path = exchange_path(start, end)
            self.assertEqual(len(path), 40000)
            self.assertIs(check_path(start, end, path), True)
            self.assertIs(check_path(start, end, path[:-1]), False)
            self.assertIs(check_path(start, start, path), False)
            program = list(start)
            for index in path:
                self.assertNotEqual(program[index].islower(), program[index + 1].islower())
                program[index], program[index + 1] = program[index + 1], program[index]
            self.assertEqual("".join(program), end)

    def test_long_programs(self):
        for program in long_programs():
            normal = normal_program(program)
            for start, end in [(program, normal), (normal, program)]:
                path = exchange_path(start, end)
                self.assertEqual(len(path), distance(start, end))
                self.assertIs(check_path(start, end, path), True)
                for count in [0, len(path) // 3, len(path) // 2]:
                    reached = start
                    for index in path[:count]:
                        reached = swapped(reached, index)
                    self.assertEqual(plain_values(reached), plain_values(start))

    def test_both_directions_through_the_middle(self):
        """Takes that have to move to the front and others that have to move to the back."""
        for first, second in [("aBbA", "BabA"), ("cAdcBd", "AccdBd"), ("ccABdd", "AccddB"), ("cABccd", "ccABcd")]:
            if plain_values(first) == plain_values(second):
                self.assert_path(first, second, plain_distances(first)[second])
                self.assert_path(second, first, plain_distances(first)[second])

    def test_every_list_is_new(self):
        path = exchange_path("cA", "Ac")
        path.append(9)
        self.assertEqual(exchange_path("cA", "Ac"), [0])

    def test_by_name(self):
        self.assertEqual(distance(second="Acd", first="cdA"), 2)
        self.assertEqual(exchange_path(second="Ac", first="cA"), [0])
        self.assertIs(check_path(path=[0], second="Ac", first="cA"), True)


class CheckPath(CheckedCase):
    def test_all_short_lists(self):
        for first in ["aBa", "cAb", "aAb", "abB", "bABa", "aBbA", "ABab", "AaAabB"]:
            programs = sorted(plain_distances(first)) + ["aB", first.swapcase()]
            for length in range(4):
                for path in itertools.product(range(-1, len(first) + 1), repeat=length):
                    for second in programs:
                        expected = plain_check(first, second, path)
                        self.assertIs(check_path(first, second, list(path)), expected)

    def test_longer_lists_than_needed(self):
        self.assertIs(check_path("cA", "Ac", [0]), True)
        self.assertIs(check_path("cA", "Ac", [0, 0]), False)
        self.assertIs(check_path("cA", "Ac", [0, 0, 0]), True)
        self.assertIs(check_path("cA", "Ac", [0] * 39999), True)
        self.assertIs(check_path("cA", "cA", [0] * 40000), True)
        self.assertIs(check_path("cA", "cA", [0] * 39999), False)

    def test_an_exchange_on_the_way_must_keep_the_effect(self):
        self.assertIs(check_path("aA", "aA", [0, 0]), False)
        self.assertIs(check_path("Aa", "Aa", [0, 0]), False)
        self.assertIs(check_path("aAb", "aAb", [1, 1]), True)
        self.assertIs(check_path("aAb", "aAb", [0, 0]), False)
        self.assertIs(check_path("aAb", "aAb", [1, 0, 0, 1]), False)
        # After the exchange of one take that comes too early for a smaller core, the other one must stay too early.
        self.assertIs(check_path("AaAabB", "aAAabB", [0]), True)
        self.assertIs(check_path("AaAabB", "aAAabB", [0, 2, 2]), False)
        self.assertIs(check_path("AaAabB", "AaaAbB", [2]), True)
        self.assertIs(check_path("AaAabB", "AaaAbB", [2, 0, 0]), False)
        self.assertIs(check_path("AaAabB", "AaaAbB", [0, 0, 2]), True)

    def test_random_walks(self):
        """Longer walks, so that each exchange is checked in the program as it is then."""
        source = random.Random(24)
        for count in range(60):
            first = random_string(source, source.choice(["aA", "abAB", "aabAB", "abABB"]), 10)
            program, path = first, []
            while plain_exchanges(program) and len(path) < 12:
                path.append(source.choice(plain_exchanges(program)))
                program = swapped(program, path[-1])
            self.assertIs(check_path(first, program, path), True)
            for at in range(len(path)):
                wrong = path[:at] + [source.randrange(len(first))] + path[at + 1:]
                self.assertIs(check_path(first, program, wrong), plain_check(first, program, wrong))

    def test_indexes_of_other_kinds(self):
        self.assertIs(check_path("aBc", "aBc", [0, 0]), True)
        others = [value for value in values_of_other_kinds() if value.__class__ is not int]
        for value in others + ["", "0", "1", [0], (0,), -1, 2, 3, 10 ** 199, -2, -3, False, True]:
            with self.subTest(value=value):
                self.assertIs(check_path("aBc", "Bac", [value]), False)
                self.assertIs(check_path("aBc", "acB", [value]), False)
                self.assertIs(check_path("aBc", "aBc", [0, value]), False)
                self.assertIs(check_path("aBc", "aBc", [1, value]), False)
                self.assertIs(check_path("aBc", "aBc", [0, 0, value]), False)

    def test_other_values(self):
        for value in values_of_other_kinds() + ["", "0", (0,), {0: 0}, {0}, object]:
            if value != []:
                with self.subTest(value=value):
                    self.assertIs(check_path("cA", "Ac", value), False)
                    self.assertIs(check_path("cA", "cA", value), False)
                    self.assertIs(check_path("", "", value), False)

    def test_the_path_is_not_changed(self):
        path = [0, 0, 0]
        check_path("cA", "Ac", path)
        self.assertEqual(path, [0, 0, 0])


class WrongArguments(CheckedCase):
    def test_one_program(self):
        for value in wrong_programs():
            with self.subTest(value=value):
                self.assert_error(InvalidProgram, "value", value, normal_program, value)
                self.assert_error(InvalidProgram, "value", value, exchanges, value)
                self.assert_error(InvalidProgram, "value", value, exchanged, value, 0)
                self.assert_error(InvalidProgram, "value", value, exchanged, value, None)

    def test_two_programs(self):
        for value in wrong_programs():
            with self.subTest(value=value):
                for function, rest in [(distance, ()), (exchange_path, ()), (check_path, ([],)), (check_path, (None,))]:
                    self.assert_error(InvalidProgram, "value", value, function, value, "a", *rest)
                    self.assert_error(InvalidProgram, "value", value, function, "a", value, *rest)

    def test_the_leftmost_wrong_program(self):
        for value in few_wrong_programs():
            for function, rest in [(distance, ()), (exchange_path, ()), (check_path, ([],)), (check_path, (None,))]:
                self.assert_error(InvalidProgram, "value", value, function, value, ["i"], *rest)


if __name__ == "__main__":
    unittest.main()

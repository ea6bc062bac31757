"""Point 18, the console: leakyqueue/console.py."""

import itertools
import random
import unittest

from leakyqueue.console import Console
from leakyqueue.counting import program_count
from leakyqueue.effects import Effect
from leakyqueue.errors import (
    Failed, InvalidCommand, InvalidNumber, LimitExceeded, NothingToUndo, UnknownName,
)
from leakyqueue.exchanges import distance, normal_program
from leakyqueue.formats import effect_text, set_text
from leakyqueue.powers import most_repetitions, power_core
from leakyqueue.results import best_result
from leakyqueue.separation import separating_queue
from leakyqueue.session import Session
from leakyqueue.sets import image
from plain_sets import random_set
from samples import CheckedCase, random_string, values_of_other_kinds

# The parts of each command, as the table lists them.
COMMANDS = {
    "best": ["PROGRAM", "QUEUE"],
    "effect": ["PROGRAM"],
    "same": ["PROGRAM", "PROGRAM"],
    "normal": ["PROGRAM"],
    "distance": ["PROGRAM", "PROGRAM"],
    "core": ["PROGRAM", "EXPONENT"],
    "repeat": ["PROGRAM", "QUEUE"],
    "count": ["PROGRAM"],
    "image": ["PROGRAM", "SET"],
    "open": ["NAME", "QUEUE"],
    "close": ["NAME"],
    "run": ["NAME", "PROGRAM"],
    "undo": ["NAME"],
    "show": ["NAME"],
    "names": [],
}
RIGHT_PARTS = {
    "PROGRAM": ["-", "a", "A", "aBcH", "h" * 60],
    "QUEUE": ["-", "a", "abch", "h" * 400],
    "EXPONENT": ["0", "1", "10", "1" + "0" * 30, "90"],
    "SET": ["none", "-", "a", "{ab}", "a {bc} | -", "a b c | {h}"],
    "NAME": ["q"],
}
WRONG_PARTS = {
    "PROGRAM": ["", "--", "i", "aI", "a-", "-a", "0", "a" * 401, "a\n", "\ta", "a.b", "{a}", "none"],
    "QUEUE": ["", "--", "i", "A", "aB", "a-", "-a", "0", "a" * 401, "a\n", "\ta", "a.b", "{a}", "fails"],
    "EXPONENT": ["", "-", "00", "01", "-1", "+1", "1.0", "a", "1" + "0" * 60, "1\n", "1_0", "0x1", "one"],
    "SET": ["", "--", "A", "i", "{}", "{ba}", "{aa}", "ab", "a  b", " a", "a ", "a |", "| a", "a|b", "none | a", "- a",
            "a\n", "a " * 20 + "a", "- | " * 20 + "-", "0"],
    "NAME": ["", "-", "Q", "q1", "abcdefghi", "a_b", "q\n", "\tq", "a.b", "{q}", "1"],
}


def written(steps):
    return steps or "-"


class ConsoleCase(CheckedCase):
    def assert_invalid(self, command, console=None):
        """The command raises InvalidCommand with the very value, and the sessions stay."""
        console = console or self.with_sessions("q", "r")
        before = self.everything(console)
        self.assert_error(InvalidCommand, "value", command, console.execute, command)
        self.assertEqual(self.everything(console), before)

    def assert_raises(self, error, field, expected, console, command):
        """The command raises this error, and the sessions stay."""
        before = self.everything(console)
        with self.assertRaises(error) as caught:
            console.execute(command)
        self.assertEqual(caught.exception.__class__, error)
        self.assert_same(expected, getattr(caught.exception, field))
        self.assertEqual(self.everything(console), before)

    def everything(self, console):
        names = console.execute("names")
        shown = [] if names == "-" else [console.execute("show " + name) for name in names.split(" ")]
        return names, shown, len(console)

    def with_sessions(self, *names):
        console = Console()
        for name in names:
            console.execute("open " + name + " abc")
            console.execute("run " + name + " dB")
        return console

    def assert_answer(self, command, expected):
        """The answer is the same on a new console and on one with sessions, which stay."""
        console = self.with_sessions("q")
        before = self.everything(console)
        self.assert_same(expected, Console().execute(command))
        self.assert_same(expected, console.execute(command))
        self.assertEqual(self.everything(console), before)


class Examples(unittest.TestCase):
    def test_document_example(self):
        c = Console()
        commands = [
            'same aA -', 'open q ba', 'run q cA', 'show q', 'undo q', 'image C {ab} c d', 'count abA',
        ]
        self.assertEqual([c.execute(x) for x in commands], ['no b', 'ok', '1', 'c cA', 'A', 'd', '2'])

    def test_methods_stand_in_the_class_itself(self):
        for name in ["__init__", "execute", "__len__"]:
            self.assertIn(name, vars(Console))


class Answers(ConsoleCase):
    """Each command of the table against the called functions."""

    def programs(self, seed, count, longest):
        source = random.Random(seed)
        for k in range(count):
            letters = source.choice(["aA", "abAB", "aAAB", "abcABC"])
            program = random_string(source, letters, longest)
            yield program, source.choice([random_string(source, letters, longest), "".join(sorted(program))]), source

    def test_best(self):
        for program, other, source in self.programs(130, 80, 6):
            queue = random_string(source, "abc", 6)
            result = best_result(program, queue)
            expected = "fails" if result is None else written(result)
            self.assert_answer("best " + written(program) + " " + written(queue), expected)
        for command, expected in [
            ("best A a", "-"), ("best - -", "-"), ("best A -", "fails"), ("best aBc bab", "abac"), ("best - ab", "ab"),
            ("best " + "a" * 400 + " -", "a" * 400),
        ]:
            self.assert_answer(command, expected)

    def test_effect(self):
        for program, other, source in self.programs(131, 60, 8):
            self.assert_answer("effect " + written(program), effect_text(Effect.of(program)))
        for command, expected in [("effect -", "- - 0"), ("effect BaA", "ba a 1"), ("effect A", "a - 1")]:
            self.assert_answer(command, expected)

    def test_same(self):
        answers = set()
        for program, other, source in self.programs(132, 150, 5):
            queue = separating_queue(program, other)
            expected = "yes" if queue is None else "no " + written(queue)
            answers.add(expected)
            self.assert_answer("same " + written(program) + " " + written(other), expected)
        self.assertLessEqual({"yes", "no -", "no a"}, answers)
        for command, expected in [
            ("same - -", "yes"), ("same Aa aA", "no -"), ("same aB Ba", "yes"), ("same - aA", "no b"),
        ]:
            self.assert_answer(command, expected)

    def test_normal(self):
        for program, other, source in self.programs(133, 60, 8):
            self.assert_answer("normal " + written(program), written(normal_program(program)))
        for command, expected in [("normal -", "-"), ("normal abBA", "BaAb")]:
            self.assert_answer(command, expected)

    def test_distance(self):
        answers = set()
        for program, other, source in self.programs(134, 100, 6):
            for second in [other, normal_program(program)]:
                fewest = distance(program, second)
                answers.add(fewest)
                self.assert_answer(
                    "distance " + written(program) + " " + written(second), "none" if fewest is None else str(fewest))
        self.assertLessEqual({None, 0, 1, 2}, answers)
        for command, expected in [("distance - -", "0"), ("distance cdA Acd", "2"), ("distance a -", "none")]:
            self.assert_answer(command, expected)

    def test_core(self):
        for program, other, source in self.programs(135, 60, 6):
            exponent = source.choice([0, 1, 2, 7, 10 ** 20, 10 ** 30])
            expected = str(power_core(program, exponent))
            self.assert_answer("core " + written(program) + " " + str(exponent), expected)
        for command, expected in [
            ("core aAA " + str(10 ** 20), str(10 ** 20)), ("core - 0", "0"), ("core A 0", "0"), ("core A 1", "1"),
            ("core " + "A" * 60 + " 1" + "0" * 30, "60" + "0" * 30),
        ]:
            self.assert_answer(command, expected)

    def test_repeat(self):
        answers = set()
        for program, other, source in self.programs(136, 80, 4):
            queue = random_string(source, "ab", 6)
            most = most_repetitions(program, queue)
            answers.add(most)
            expected = "unlimited" if most is None else str(most)
            self.assert_answer("repeat " + written(program) + " " + written(queue), expected)
        self.assertLessEqual({None, 0, 1}, answers)
        for command, expected in [("repeat aAA aaa", "3"), ("repeat - -", "unlimited"), ("repeat A -", "0")]:
            self.assert_answer(command, expected)

    def test_count(self):
        for program, other, source in self.programs(137, 60, 10):
            self.assert_answer("count " + written(program), str(program_count(Effect.of(program))))
        self.assert_answer("count -", "1")
        program = "ab" * 100 + "CD" * 100
        self.assert_answer("count " + program, str(program_count(Effect.of(program))))

    def test_image(self):
        for program, other, source in self.programs(138, 120, 4):
            queues = random_set(source, "abc", 3, 4)
            expected = set_text(image(queues, program))
            self.assert_answer("image " + written(program) + " " + set_text(queues), expected)
        for command, expected in [
            ("image - none", "none"), ("image - -", "-"), ("image a -", "a"), ("image A -", "none"),
            ("image C {ab} c d", "d"), ("image A a | b", "-"), ("image a {b} | - | {b}", "{b} a"),
            ("image B {ab} | b c", "{ab} | c"),
        ]:
            self.assert_answer(command, expected)


class Sessions(ConsoleCase):
    def test_the_commands_of_a_session(self):
        console = Console()
        for command, expected in [
            ("names", "-"), ("open q ba", "ok"), ("names", "q"), ("show q", "ba -"), ("run q cA", "1"), ("show q", "c cA"),
            ("run q C", "0"), ("show q", "- cAC"), ("undo q", "C"), ("undo q", "A"), ("undo q", "c"), ("show q", "ba -"),
            ("run q -", "0"), ("open r -", "ok"), ("show r", "- -"), ("run r abB", "1"), ("show r", "- abB"),
            ("open a h", "ok"), ("names", "a q r"), ("close q", "ok"), ("names", "a r"), ("close a", "ok"),
            ("close r", "ok"), ("names", "-"),
        ]:
            self.assert_same(expected, console.execute(command))

    def test_against_sessions(self):
        source = random.Random(140)
        console, sessions = Console(), {}
        names = ["q", "r", "abcdefgh", "zz"]
        seen = set()
        for count in range(1500):
            name = source.choice(names)
            kind = source.choice(["open", "close", "run", "run", "run", "run", "undo", "undo", "show"])
            if kind == "open" and source.randrange(4) == 0:
                word = random_string(source, "ab", 4)
                self.assertEqual(console.execute("open " + name + " " + written(word)), "ok")
                sessions[name] = Session(word)
            elif name not in sessions:
                command = {"open": "show ", "run": "run "}.get(kind, kind + " ") + name + (" a" if kind == "run" else "")
                self.assert_raises(UnknownName, "name", name, console, command)
            elif kind == "close" and source.randrange(4) == 0:
                self.assertEqual(console.execute("close " + name), "ok")
                del sessions[name]
            elif kind == "run":
                seen.add(self.assert_run(source, console, sessions[name], name))
            elif kind == "undo":
                seen.add(self.assert_undo(console, sessions[name], name))
            for name in sessions:
                shown = written(sessions[name].word) + " " + written(sessions[name].program)
                self.assertEqual(console.execute("show " + name), shown)
            self.assertEqual(console.execute("names"), " ".join(sorted(sessions)) or "-")
            self.assertEqual(len(console), len(sessions))
        self.assertEqual(seen, {"ran", "failed", "undone", "nothing"})

    def assert_run(self, source, console, session, name):
        program = random_string(source, "abAB", 3)
        command = "run " + name + " " + written(program)
        try:
            lost = session.run(program)
        except Failed as error:
            self.assert_raises(Failed, "index", error.index, console, command)
            return "failed"
        self.assert_same(str(lost), console.execute(command))
        return "ran"

    def assert_undo(self, console, session, name):
        if len(session) == 0:
            self.assert_raises(NothingToUndo, "count", 1, console, "undo " + name)
            return "nothing"
        self.assert_same(session.undo(), console.execute("undo " + name))
        return "undone"

    def test_names_in_alphabetical_order(self):
        console = Console()
        for name in ["z", "abc", "ab", "b", "aab"]:
            console.execute("open " + name + " -")
        self.assertEqual(console.execute("names"), "aab ab abc b z")

    def test_an_existing_session_is_replaced(self):
        console = self.with_sessions("q", "r")
        self.assertEqual(console.execute("open q h"), "ok")
        self.assertEqual(console.execute("show q"), "h -")
        self.assertEqual(console.execute("show r"), "cd dB")
        self.assertEqual(len(console), 2)
        self.assert_raises(NothingToUndo, "count", 1, console, "undo q")

    def test_eight_and_nine_sessions(self):
        names = ["s" + letter for letter in "hgfedcba"]
        console = Console()
        for size, name in enumerate(names):
            self.assertEqual(len(console), size)
            self.assertEqual(console.execute("open " + name + " a"), "ok")
        self.assertEqual(len(console), 8)
        self.assert_raises(LimitExceeded, "limit", 8, console, "open t -")
        self.assert_raises(LimitExceeded, "limit", 8, console, "open t abc")
        self.assertEqual(console.execute("open " + names[3] + " b"), "ok")
        self.assertEqual(len(console), 8)
        self.assertEqual(console.execute("show " + names[3]), "b -")
        # Other commands do not need room for a session.
        self.assertEqual(console.execute("same - -"), "yes")
        self.assert_raises(UnknownName, "name", "t", console, "show t")
        self.assertEqual(console.execute("close " + names[0]), "ok")
        self.assertEqual(console.execute("open t -"), "ok")
        self.assertEqual(len(console), 8)

    def test_closed_sessions(self):
        console = self.with_sessions("q")
        self.assertEqual(console.execute("close q"), "ok")
        self.assertEqual(len(console), 0)
        for command in ["close q", "show q", "undo q", "run q a"]:
            self.assert_raises(UnknownName, "name", "q", console, command)
        self.assertEqual(console.execute("open q b"), "ok")
        self.assertEqual(console.execute("show q"), "b -")

    def test_two_consoles_do_not_share_sessions(self):
        first, second = Console(), Console()
        first.execute("open q a")
        self.assertEqual([len(first), len(second)], [1, 0])
        self.assert_raises(UnknownName, "name", "q", second, "show q")
        second.execute("open q b")
        second.execute("run q c")
        self.assertEqual([first.execute("show q"), second.execute("show q")], ["a -", "bc c"])

    def test_names_that_are_words_of_commands(self):
        console = Console()
        for name in ["open", "close", "names", "none", "fails", "a", "h"]:
            self.assertEqual(console.execute("open " + name + " a"), "ok")
            self.assertEqual(console.execute("show " + name), "a -")

    def test_by_name(self):
        self.assertEqual(Console().execute(command="best - ab"), "ab")


class WrongCommands(ConsoleCase):
    def test_values_of_other_kinds(self):
        for value in values_of_other_kinds() + [["names"], ("names",), b"names", ["best", "a", "a"], Console()]:
            with self.subTest(value=value):
                console = self.with_sessions("q")
                with self.assertRaises(InvalidCommand) as caught:
                    console.execute(value)
                self.assertIs(caught.exception.value, value)
                self.assertEqual(len(console), 1)

    def test_words_that_are_no_commands(self):
        for command in [
            "", " ", "-", "a", "Best a a", "BEST a a", "best\ta a", "bests a a", "bes a a", "redo q", "clone q", "quit",
            "help", "name", "names\n", "\nnames", " names", "names ", "names q", "names -", "Names", "shows q", "show\nq",
            "best", "image", "open", "run", "optional a", "{a}", "names names",
        ]:
            with self.subTest(command=command):
                self.assert_invalid(command)

    def test_too_few_or_too_many_parts(self):
        for word, forms in COMMANDS.items():
            right = [RIGHT_PARTS[form][1 % len(RIGHT_PARTS[form])] for form in forms]
            for size in range(len(right)):
                with self.subTest(word=word, size=size):
                    self.assert_invalid(" ".join([word] + right[:size]))
            for added in ["a", "-", "q", "1", "", "none", "{a}"]:
                # What follows a set belongs to the set.
                if word != "image" or added not in ["a", "{a}"]:
                    self.assert_invalid(" ".join([word] + right + [added]))

    def test_blanks(self):
        for word, forms in COMMANDS.items():
            parts = [word] + [RIGHT_PARTS[form][1 % len(RIGHT_PARTS[form])] for form in forms]
            command = " ".join(parts)
            for other in [" " + command, command + " ", command + "\n", "\n" + command, command + "\t"]:
                self.assert_invalid(other)
            for at in range(1, len(parts)):
                for between in ["  ", "\t", "\n", " \n", ""]:
                    self.assert_invalid(" ".join(parts[:at]) + between + " ".join(parts[at:]))

    def test_parts_of_other_forms(self):
        for word, forms in COMMANDS.items():
            for at, form in enumerate(forms):
                parts = [RIGHT_PARTS[each][0] for each in forms]
                for wrong in WRONG_PARTS[form]:
                    with self.subTest(word=word, at=at, wrong=wrong):
                        self.assert_invalid(" ".join([word] + parts[:at] + [wrong] + parts[at + 1:]))

    def test_parts_of_the_right_forms(self):
        for word, forms in COMMANDS.items():
            if word != "undo":
                for parts in itertools.product(*[RIGHT_PARTS[form] for form in forms]):
                    console = self.with_sessions("q")
                    try:
                        answer = console.execute(" ".join([word] + list(parts)))
                    except (LimitExceeded, Failed):
                        continue
                    self.assertIs(answer.__class__, str)

    def test_one_character_changed(self):
        """Every change of a command is another command, or raises the error with the very value."""
        for command in ["best aB ab", "core A 10", "image A {ab} | -", "open q ab", "run q dB", "names", "undo q"]:
            for at in range(len(command) + 1):
                for other in [command[:at] + x + command[at:] for x in " -aAi0|\n"] + [command[:at] + command[at + 1:]]:
                    console = self.with_sessions("q")
                    try:
                        self.assertIs(console.execute(other).__class__, str)
                    except InvalidCommand as error:
                        self.assertIs(error.value, other)
                    except (UnknownName, Failed, LimitExceeded, InvalidNumber):
                        self.assertEqual(other, " ".join(other.split()))


class OrderOfErrors(ConsoleCase):
    def full(self):
        return self.with_sessions(*["s" + letter for letter in "abcdefgh"])

    def test_invalid_commands_come_first(self):
        for command in ["run t i", "run t", "show t a", "close t ", "undo T"]:
            self.assert_invalid(command)
        for command in ["open t A", "open t", "open T a", "open t a a"]:
            self.assert_invalid(command, self.full())

    def test_unknown_names_come_before_the_called_function(self):
        for command in ["run t A", "run t " + "a" * 400, "undo t", "show t", "close t"]:
            self.assert_raises(UnknownName, "name", "t", self.with_sessions("q"), command)
            self.assert_raises(UnknownName, "name", "t", self.full(), command)
            self.assert_raises(UnknownName, "name", "t", Console(), command)

    def test_errors_of_the_called_functions(self):
        console = self.with_sessions("q")
        for error, field, expected, command in [
            (LimitExceeded, "limit", 400, "best a " + "a" * 400),
            (LimitExceeded, "limit", 60, "core " + "a" * 61 + " 1"),
            (LimitExceeded, "limit", 60, "core " + "a" * 61 + " 1" + "0" * 31),
            (InvalidNumber, "value", 10 ** 30 + 1, "core a 1" + "0" * 29 + "1"),
            (InvalidNumber, "value", int("9" * 60), "core a " + "9" * 60),
            (LimitExceeded, "limit", 60, "repeat " + "A" * 61 + " a"),
            (LimitExceeded, "limit", 20, "image b " + " ".join(["a"] * 20)),
            (Failed, "index", 0, "run q A"),
            (Failed, "index", 2, "run q aAA"),
        ]:
            self.assert_raises(error, field, expected, console, command)
        self.assertEqual(console.execute("run q " + "aA" * 199), "2")
        self.assert_raises(LimitExceeded, "limit", 400, console, "run q a")
        self.assert_raises(Failed, "index", 0, console, "run q H")
        fresh = Console()
        fresh.execute("open q " + "a" * 400)
        self.assert_raises(Failed, "index", 0, fresh, "run q a")
        self.assert_raises(NothingToUndo, "count", 1, fresh, "undo q")

    def test_numbers_of_60_and_61_digits(self):
        self.assert_raises(InvalidNumber, "value", 10 ** 59, Console(), "core a 1" + "0" * 59)
        self.assert_invalid("core a 1" + "0" * 60)
        self.assert_invalid("core " + "a" * 61 + " 1" + "0" * 60)


if __name__ == "__main__":
    unittest.main()

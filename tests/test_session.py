"""Point 16, sessions: leakyqueue/session.py."""

import random
import unittest

from leakyqueue.effects import Effect
from leakyqueue.errors import Failed, InvalidNumber, InvalidProgram, InvalidWord, LimitExceeded, NothingToUndo
from leakyqueue.queues import LeakyQueue, Queue
from leakyqueue.session import Session
from plain import plain_values
from samples import CheckedCase, no_numbers, random_string, values_of_other_kinds, wrong_programs, wrong_words

LISTED = [
    "__init__", "run", "undo", "redo", "word", "program", "effect", "clone", "__eq__", "__len__", "__repr__",
]


class PlainSession:
    """A plain list of steps, with the steps that were cancelled, the one that was cancelled last at the end."""

    def __init__(self, word):
        self.initial = word
        self.steps = []
        self.cancelled = []

    def perform(self, program):
        """The word after all current steps and these ones, and the lost items of these; or the index that fails."""
        word, lost = self.initial, 0
        for index, step in enumerate(self.steps + list(program)):
            new = index - len(self.steps)
            if step in "abcdefgh":
                if len(word) == 400:
                    return None, new
                word += step
            else:
                at = word.find(step.lower())
                if at < 0:
                    return None, new
                word = word[at + 1:]
                lost += at if new >= 0 else 0
        return word, lost

    def run(self, program):
        word, lost = self.perform(program)
        if word is None:
            return "Failed", lost
        if len(self.steps) + len(program) > 400:
            return "LimitExceeded", 400
        self.steps += list(program)
        if program != "":
            self.cancelled = []
        return "returned", lost

    def undo(self, count):
        if count > len(self.steps):
            return "NothingToUndo", count
        undone = [self.steps.pop() for k in range(count)]
        self.cancelled += undone
        return "returned", "".join(undone[::-1])

    def redo(self, count):
        if count > len(self.cancelled):
            return "NothingToUndo", count
        redone = [self.cancelled.pop() for k in range(count)]
        self.steps += redone
        return "returned", "".join(redone)


def outcome(call, *arguments):
    """What the call returned, or the name and field of its error."""
    try:
        return "returned", call(*arguments)
    except Failed as error:
        return "Failed", error.index
    except LimitExceeded as error:
        return "LimitExceeded", error.limit
    except NothingToUndo as error:
        return "NothingToUndo", error.count


def with_steps(word, program):
    session = Session(word)
    session.run(program)
    return session


class SessionCase(CheckedCase):
    def assert_shows(self, session, initial, word, program):
        """The session shows these values in every way."""
        self.assert_same(word, session.word)
        self.assert_same(program, session.program)
        self.assertIs(session.effect.__class__, Effect)
        self.assertEqual(session.effect, Effect.of(program))
        self.assertEqual(len(session), len(program))
        self.assertEqual(repr(session), "Session('" + initial + "', '" + program + "')")

    def assert_like(self, session, plain):
        """The session answers like the plain one, and like a new one that runs the same steps at once."""
        program = "".join(plain.steps)
        self.assert_shows(session, plain.initial, plain.perform("")[0], program)
        fresh = with_steps(plain.initial, program)
        self.assertIs(session == fresh, True)
        self.assertEqual(repr(session), repr(fresh))
        self.assertEqual(session.effect, fresh.effect)

    def assert_unchanged_error(self, session, error, field, expected, method, *arguments):
        """The call raises this error, and nothing changes, also not what can be undone and redone."""
        before = session.clone()
        self.assert_error(error, field, expected, getattr(session, method), *arguments)
        self.assertEqual(repr(session), repr(before))
        self.assertEqual(session, before)
        self.assertEqual(self.all_redone(session.clone()), self.all_redone(before))

    def all_redone(self, session):
        redone = ""
        while True:
            kind, value = outcome(session.redo)
            if kind != "returned":
                return redone
            redone += value


class Examples(unittest.TestCase):
    def test_document_example(self):
        s = Session('ba')
        results = [s.run('cA'), s.run('d'), s.undo(2), s.word, s.redo()]
        self.assertEqual(
            [results, s.word, s.program, repr(s), len(s)],
            [[1, 0, 'Ad', 'bac', 'A'], 'c', 'cA', "Session('ba', 'cA')", 2],
        )

    def test_methods_stand_in_the_class_itself(self):
        for name in LISTED:
            self.assertIn(name, vars(Session))
        for name in ["word", "program", "effect"]:
            self.assertIsInstance(vars(Session)[name], property)


class LongSequences(SessionCase):
    def drawn_call(self, source):
        kind = source.choice(["run", "run", "run", "undo", "redo", "undo", "redo"])
        if kind == "run":
            return kind, random_string(source, source.choice(["aab", "abAB", "aA", "abcABC"]), source.choice([1, 3, 8]))
        return kind, source.choice([1, 1, 1, 2, 3, 10])

    def test_against_a_plain_list_of_steps(self):
        source = random.Random(110)
        seen = set()
        for count in range(60):
            word = random_string(source, "abc", 6)
            session, plain = Session(word), PlainSession(word)
            for k in range(60):
                kind, argument = self.drawn_call(source)
                expected = getattr(plain, kind)(argument)
                self.assertEqual(outcome(getattr(session, kind), argument), expected)
                seen.add((kind, expected[0]))
                self.assert_like(session, plain)
        self.assertLessEqual({
            ("run", "returned"), ("run", "Failed"), ("undo", "returned"), ("undo", "NothingToUndo"),
            ("redo", "returned"), ("redo", "NothingToUndo"),
        }, seen)

    def test_many_steps(self):
        """Sequences that reach 400 steps, and queues that reach 400 items."""
        source = random.Random(111)
        seen = set()
        for initial in ["", "a" * 200, "ab" * 190]:
            session, plain = Session(initial), PlainSession(initial)
            for k in range(120):
                kind = source.choice(["run", "run", "run", "undo", "redo"])
                argument = source.randint(1, 15)
                if kind == "run":
                    argument = "".join([source.choice("aaabbA") for j in range(source.randint(0, 30))])
                expected = getattr(plain, kind)(argument)
                self.assertEqual(outcome(getattr(session, kind), argument), expected)
                self.assert_like(session, plain)
                seen.add(expected[0])
        self.assertLessEqual({"returned", "Failed", "LimitExceeded", "NothingToUndo"}, seen)

    def test_all_steps_undone_and_redone(self):
        program = "abAcBdaC"
        session = with_steps("cab", program)
        for length in range(len(program) - 1, -1, -1):
            self.assertEqual(session.undo(), program[length])
            self.assertEqual(session, with_steps("cab", program[:length]))
        for length in range(1, len(program) + 1):
            self.assertEqual(session.redo(), program[length - 1])
            self.assertEqual(session, with_steps("cab", program[:length]))
        self.assertEqual(session.undo(8), program)
        self.assert_shows(session, "cab", "cab", "")
        self.assertEqual(session.redo(3), "abA")
        self.assertEqual(session.undo(2), "bA")
        self.assertEqual(session.redo(7), "bAcBdaC")


class Run(SessionCase):
    def test_lost_items(self):
        for word, program, lost in [
            ("", "", 0), ("abc", "", 0), ("abc", "A", 0), ("abc", "C", 2), ("abc", "BC", 1), ("abcabc", "CC", 4),
            ("", "abB", 1), ("aab", "cB", 2), ("ab", "ccC", 2), ("h" * 400, "AA", None), ("b" * 399 + "a", "A", 399),
        ]:
            session = Session(word)
            if lost is None:
                self.assertRaises(Failed, session.run, program)
            else:
                self.assert_same(lost, session.run(program))

    def test_as_a_leaky_queue_does(self):
        source = random.Random(112)
        for count in range(300):
            word = random_string(source, "abc", 8)
            program = random_string(source, "abcABC", 8)
            queue, session = LeakyQueue(word), Session(word)
            expected = outcome(queue.run, program)
            found = outcome(session.run, program)
            self.assertEqual(found[0], expected[0])
            if found[0] == "Failed":
                self.assertEqual(found, expected)
            self.assertEqual(session.word, queue.word)

    def test_failed_names_the_step_of_this_program(self):
        session = with_steps("ab", "cc")
        self.assert_unchanged_error(session, Failed, "index", 0, "run", "D")
        self.assert_unchanged_error(session, Failed, "index", 3, "run", "dABAc")
        self.assert_unchanged_error(session, Failed, "index", 2, "run", "BbA")

    def test_a_401st_item(self):
        session = Session("a" * 400)
        self.assert_unchanged_error(session, Failed, "index", 0, "run", "a")
        self.assertEqual(session.run("Ab"), 0)
        self.assert_unchanged_error(session, Failed, "index", 0, "run", "bA")
        self.assert_unchanged_error(session, Failed, "index", 2, "run", "Acc")
        session = with_steps("a" * 200, "b" * 200)
        self.assert_unchanged_error(session, Failed, "index", 0, "run", "b")

    def test_400_and_401_steps(self):
        session = with_steps("", "aA" * 199)
        self.assertEqual(session.run("aA"), 0)
        self.assertEqual(len(session), 400)
        self.assert_full(session, "a")
        self.assertEqual(session.run(""), 0)
        self.assertEqual(session.undo(), "A")
        self.assert_full(session, "Aa")
        self.assertEqual(session.run("A"), 0)
        self.assertEqual(len(Session("").program), 0)
        session = with_steps("", "a" * 400)
        self.assertEqual(session.effect, Effect("", "a" * 400, 0))
        self.assert_full(session, "A")

    def assert_full(self, session, program):
        """The run would make more than 400 steps, and nothing changes."""
        before = session.clone()
        self.assertEqual(outcome(session.run, program), ("LimitExceeded", 400))
        self.assertEqual(repr(session), repr(before))
        self.assertEqual(self.all_redone(session.clone()), self.all_redone(before))

    def test_failed_comes_before_the_limit(self):
        session = with_steps("", "aA" * 200)
        self.assert_unchanged_error(session, Failed, "index", 0, "run", "A")
        self.assert_unchanged_error(session, Failed, "index", 2, "run", "aAA")
        self.assert_full(session, "aA")
        session = with_steps("", "a" * 400)
        self.assert_unchanged_error(session, Failed, "index", 0, "run", "a")
        self.assert_full(session, "Aa")

    def test_what_can_be_redone(self):
        session = with_steps("", "abc")
        session.undo(2)
        self.assertEqual(session.run(""), 0)
        self.assertEqual(session.redo(), "b")
        session.undo()
        self.assertRaises(Failed, session.run, "H")
        self.assertRaises(InvalidProgram, session.run, "i")
        self.assertRaises(InvalidNumber, session.redo, 0)
        self.assertEqual(session.redo(2), "bc")
        session.undo(2)
        self.assertEqual(session.run("b"), 0)
        self.assert_unchanged_error(session, NothingToUndo, "count", 1, "redo", 1)
        self.assertEqual(session.undo(), "b")
        self.assertEqual(session.redo(), "b")

    def test_wrong_programs(self):
        session = with_steps("ab", "cA")
        session.undo()
        for value in wrong_programs():
            with self.subTest(value=value):
                self.assert_unchanged_error(session, InvalidProgram, "value", value, "run", value)
        full = with_steps("", "aA" * 200)
        self.assert_unchanged_error(full, InvalidProgram, "value", "i", "run", "i")


class UndoAndRedo(SessionCase):
    def test_counts_that_are_no_numbers(self):
        session = with_steps("ab", "cAd")
        session.undo()
        for value in no_numbers() + [0, -1, -10 ** 30]:
            with self.subTest(value=value):
                self.assert_unchanged_error(session, InvalidNumber, "value", value, "undo", value)
                self.assert_unchanged_error(session, InvalidNumber, "value", value, "redo", value)
                self.assert_unchanged_error(Session(), InvalidNumber, "value", value, "undo", value)
                self.assert_unchanged_error(Session(), InvalidNumber, "value", value, "redo", value)

    def test_nothing_to_undo(self):
        session = with_steps("ab", "cAd")
        session.undo()
        for count in [3, 4, 400, 10 ** 30, 10 ** 199]:
            self.assert_unchanged_error(session, NothingToUndo, "count", count, "undo", count)
        for count in [2, 3, 10 ** 199]:
            self.assert_unchanged_error(session, NothingToUndo, "count", count, "redo", count)
        self.assertEqual(outcome(Session("a").undo), ("NothingToUndo", 1))
        self.assertEqual(outcome(Session("a").redo), ("NothingToUndo", 1))
        self.assertEqual(session.undo(2), "cA")
        self.assertEqual(session.redo(3), "cAd")

    def test_the_count_is_1_by_default(self):
        session = with_steps("", "ab")
        self.assertEqual([session.undo(), session.undo(), session.redo(), session.program], ["b", "a", "a", "a"])

    def test_by_name(self):
        session = Session(word="ba")
        self.assertEqual(session.run(program="cA"), 1)
        self.assertEqual(session.undo(count=2), "cA")
        self.assertEqual(session.redo(count=1), "c")
        self.assert_shows(session, "ba", "bac", "c")


class Values(SessionCase):
    def test_new_sessions(self):
        self.assert_shows(Session(), "", "", "")
        self.assert_shows(Session("ab"), "ab", "ab", "")
        self.assert_shows(Session("a" * 400), "a" * 400, "a" * 400, "")

    def test_wrong_words(self):
        for value in wrong_words():
            with self.subTest(value=value):
                self.assert_error(InvalidWord, "value", value, Session, value)

    def test_the_effect(self):
        source = random.Random(113)
        for count in range(100):
            session = Session("abc" * 4)
            outcome(session.run, random_string(source, "abcABC", 8))
            outcome(session.run, random_string(source, "abcABC", 8))
            effect = session.effect
            self.assertEqual((effect.takes, effect.puts, effect.core), plain_values(session.program))
            self.assertEqual(effect.apply("abc" * 4), session.word)

    def test_properties_cannot_be_assigned(self):
        session = with_steps("a", "b")
        for name in ["word", "program", "effect"]:
            with self.assertRaises(AttributeError):
                setattr(session, name, "c")
        self.assert_shows(session, "a", "ab", "b")

    def test_equality(self):
        self.assertIs(Session("a") == Session("a"), True)
        self.assertIs(Session("a") == Session("b"), False)
        # Other first words and the same present word and steps: the old items are lost.
        self.assertIs(with_steps("ab", "B") == with_steps("aab", "B"), True)
        self.assertIs(with_steps("ab", "B") != with_steps("aab", "B"), False)
        # The same present word, and other steps.
        self.assertIs(with_steps("a", "b") == Session("ab"), False)
        self.assertIs(with_steps("a", "bB") == with_steps("", ""), False)
        # The same steps, and another present word.
        self.assertIs(with_steps("a", "b") == with_steps("c", "b"), False)
        # What can be redone does not count.
        undone = with_steps("a", "b")
        undone.undo()
        self.assertIs(undone == Session("a"), True)
        for value in values_of_other_kinds() + ["", "a", LeakyQueue("a"), Queue("a"), Effect.identity(), object()]:
            self.assertIs(Session("a") == value, False)
            self.assertIs(value == Session("a"), False)
            self.assertIs(Session("a") != value, True)

    def test_clones(self):
        session = with_steps("ba", "cAd")
        session.undo(2)
        twin = session.clone()
        self.assertIs(twin.__class__, Session)
        self.assertIsNot(twin, session)
        self.assert_shows(twin, "ba", "bac", "c")
        self.assertEqual(twin, session)
        self.assertEqual(twin.redo(2), "Ad")
        self.assert_shows(session, "ba", "bac", "c")
        self.assertEqual(session.redo(), "A")
        self.assert_shows(twin, "ba", "cd", "cAd")
        twin.run("h")
        self.assertEqual(session.redo(), "d")
        self.assert_shows(session, "ba", "cd", "cAd")
        session.undo(3)
        self.assert_shows(twin, "ba", "cdh", "cAdh")

    def test_queues_are_not_shared(self):
        """A session has its own queue."""
        first, second = Session("ab"), Session("ab")
        first.run("A")
        self.assert_shows(second, "ab", "ab", "")


if __name__ == "__main__":
    unittest.main()

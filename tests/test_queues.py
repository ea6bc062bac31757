"""Points 3 and 4, queues: leakyqueue/queues.py."""

import random
import unittest

from leakyqueue.effects import Effect
from leakyqueue.errors import Failed, InvalidPosition, InvalidProgram, InvalidWord, Missing
from leakyqueue.queues import LeakyQueue, Queue
from samples import ITEM_LETTERS, CheckedCase, random_string, values_of_other_kinds, wrong_programs, wrong_words

CLASSES = [Queue, LeakyQueue]
LISTED = ["__init__", "word", "refill", "put", "take", "run", "clone", "__eq__", "__len__", "__repr__"]


def no_items():
    """Values that are no words of one item."""
    return wrong_words() + ["", "ab", "aa", "a" * 400]


def plain_take(kind, word, item):
    """The word after a take, and the number of lost items; None if there is nothing to take."""
    if kind is Queue:
        return (word[1:], 0) if word[:1] == item else None
    return (word[word.index(item) + 1:], word.index(item)) if item in word else None


def plain_run(kind, word, program):
    """The word after the program, and None, or the word before it and the index of the step that fails."""
    before = word
    for index, step in enumerate(program):
        if step in ITEM_LETTERS:
            if len(word) == 400:
                return before, index
            word += step
        else:
            taken = plain_take(kind, word, step.lower())
            if taken is None:
                return before, index
            word = taken[0]
    return word, None


class QueueCase(CheckedCase):
    def assert_word(self, kind, queue, word):
        """The queue is of this class and shows this word in every way."""
        self.assertIs(queue.__class__, kind)
        self.assert_same(word, queue.word)
        self.assertEqual(len(queue), len(word))
        self.assertEqual(repr(queue), kind.__name__ + "('" + word + "')")
        self.assertIs(queue == kind(word), True)
        self.assertIs(queue != kind(word), False)

    def assert_unchanged_error(self, queue, error, field, expected, method, *arguments):
        """The call raises this error, and the queue stays as it was."""
        word = queue.word
        self.assert_error(error, field, expected, getattr(queue, method), *arguments)
        self.assert_word(queue.__class__, queue, word)

    def assert_failed(self, queue, program, index):
        """The run fails at this index, and the queue stays as it was."""
        word = queue.word
        with self.assertRaises(Failed) as caught:
            queue.run(program)
        self.assert_same(index, caught.exception.index)
        self.assert_word(queue.__class__, queue, word)


class Examples(CheckedCase):
    def test_document_example(self):
        q = LeakyQueue('abcab')
        lost = [q.take('c'), q.put('d'), q.lose(1), q.word]
        self.assertEqual(
            [lost, repr(q), q == LeakyQueue('ad'), q == Queue('ad'), len(q)],
            [[2, None, None, 'ad'], "LeakyQueue('ad')", True, False, 2],
        )

    def test_document_error(self):
        with self.assertRaises(Failed) as caught:
            Queue('ab').run('AaA')
        self.assertEqual(caught.exception.index, 2)


class Classes(QueueCase):
    def test_listed_methods_stand_in_each_class(self):
        for name in LISTED:
            for kind in CLASSES:
                self.assertIn(name, vars(kind))
        self.assertIn("lose", vars(LeakyQueue))
        self.assertFalse(hasattr(Queue, "lose"))

    def test_subclass(self):
        self.assertEqual(LeakyQueue.__bases__, (Queue,))
        self.assertIsInstance(LeakyQueue(), Queue)

    def test_new_queues(self):
        for kind in CLASSES:
            self.assert_word(kind, kind(), "")
            for word in ["", "a", "hgfedcba", "abab", "a" * 400]:
                self.assert_word(kind, kind(word), word)
                self.assert_word(kind, kind(word=word), word)

    def test_wrong_words(self):
        for kind in CLASSES:
            for value in wrong_words():
                with self.subTest(kind=kind.__name__, value=value):
                    self.assert_error(InvalidWord, "value", value, kind, value)
                    self.assert_error(InvalidWord, "value", value, kind, word=value)

    def test_the_word_cannot_be_assigned(self):
        for kind in CLASSES:
            queue = kind("ab")
            with self.assertRaises(AttributeError):
                queue.word = "c"
            self.assert_word(kind, queue, "ab")


class Refill(QueueCase):
    def test_words(self):
        for kind in CLASSES:
            queue = kind("abc")
            for word in ["", "h", "a" * 400, "ba"]:
                self.assertIsNone(queue.refill(word))
                self.assert_word(kind, queue, word)
            self.assertIsNone(queue.refill(word="cd"))
            self.assert_word(kind, queue, "cd")

    def test_wrong_words(self):
        for kind in CLASSES:
            for value in wrong_words():
                with self.subTest(kind=kind.__name__, value=value):
                    self.assert_unchanged_error(kind("abc"), InvalidWord, "value", value, "refill", value)


class Put(QueueCase):
    def test_items_at_the_back(self):
        for kind in CLASSES:
            queue = kind("ba")
            word = "ba"
            for item in ITEM_LETTERS:
                self.assertIsNone(queue.put(item))
                word += item
                self.assert_word(kind, queue, word)
            self.assertIsNone(queue.put(item="a"))
            self.assert_word(kind, queue, word + "a")

    def test_400_items_and_one_more(self):
        for kind in CLASSES:
            queue = kind("a" * 399)
            queue.put("b")
            self.assert_word(kind, queue, "a" * 399 + "b")
            self.assert_limit(400, queue.put, "c")
            self.assert_word(kind, queue, "a" * 399 + "b")
            queue.take("a")
            queue.put("c")
            self.assert_word(kind, queue, "a" * 398 + "bc")

    def test_wrong_items(self):
        for kind in CLASSES:
            for value in no_items():
                with self.subTest(kind=kind.__name__, value=value):
                    self.assert_unchanged_error(kind("ab"), InvalidWord, "value", value, "put", value)
                    self.assert_unchanged_error(kind("a" * 400), InvalidWord, "value", value, "put", value)


class Take(QueueCase):
    def test_the_front(self):
        for kind in CLASSES:
            queue = kind("hgfedcba")
            word = "hgfedcba"
            for item in reversed(ITEM_LETTERS):
                self.assert_same(0, queue.take(item))
                word = word[1:]
                self.assert_word(kind, queue, word)
            queue.put("b")
            self.assert_same(0, queue.take(item="b"))

    def test_missing_items(self):
        for kind in CLASSES:
            for item in ITEM_LETTERS:
                self.assert_unchanged_error(kind(""), Missing, "item", item, "take", item)
            self.assert_unchanged_error(kind("ab"), Missing, "item", "c", "take", "c")

    def test_another_item_in_front(self):
        self.assert_unchanged_error(Queue("ab"), Missing, "item", "b", "take", "b")
        queue = LeakyQueue("aacabcb")
        self.assert_same(4, queue.take("b"))
        self.assert_word(LeakyQueue, queue, "cb")
        self.assert_same(1, queue.take("b"))
        self.assert_word(LeakyQueue, queue, "")

    def test_many_lost_items(self):
        queue = LeakyQueue("a" * 399 + "b")
        self.assert_same(399, queue.take("b"))
        self.assert_word(LeakyQueue, queue, "")

    def test_wrong_items(self):
        for kind in CLASSES:
            for value in no_items():
                with self.subTest(kind=kind.__name__, value=value):
                    self.assert_unchanged_error(kind("aba"), InvalidWord, "value", value, "take", value)
                    self.assert_unchanged_error(kind(""), InvalidWord, "value", value, "take", value)


class Run(QueueCase):
    def test_programs(self):
        for kind in CLASSES:
            queue = kind("ab")
            self.assertIsNone(queue.run(""))
            self.assert_word(kind, queue, "ab")
            self.assertIsNone(queue.run("cABaC"))
            self.assert_word(kind, queue, "a")
            self.assertIsNone(queue.run(program="Ah"))
            self.assert_word(kind, queue, "h")
        queue = LeakyQueue("abcab")
        self.assertIsNone(queue.run("CdD"))
        self.assert_word(LeakyQueue, queue, "")

    def test_the_first_step_that_fails(self):
        for kind in CLASSES:
            self.assert_failed(kind(""), "A", 0)
            self.assert_failed(kind("a"), "bcAAAh", 3)
            self.assert_failed(kind("a"), "A" * 400, 1)
        self.assert_failed(Queue("ab"), "cBA", 1)
        self.assert_failed(LeakyQueue("ab"), "cBA", 2)

    def test_400_items_and_one_more(self):
        for kind in CLASSES:
            queue = kind("a" * 398)
            queue.run("bc")
            self.assert_word(kind, queue, "a" * 398 + "bc")
            self.assert_failed(queue, "d", 0)
            self.assert_failed(queue, "AAbbb", 4)
            self.assert_failed(kind("a" * 398), "bcdA", 2)
            queue.run("Ad" * 200)
            self.assert_word(kind, queue, ("a" * 398 + "bc" + "d" * 200)[200:])
        queue = Queue()
        queue.run("a" * 400)
        self.assert_failed(queue, "a", 0)

    def test_wrong_programs(self):
        for kind in CLASSES:
            for value in wrong_programs():
                with self.subTest(kind=kind.__name__, value=value):
                    self.assert_unchanged_error(kind("ab"), InvalidProgram, "value", value, "run", value)


class Lose(QueueCase):
    def assert_lost(self, word, positions, rest):
        queue = LeakyQueue(word)
        self.assertIsNone(queue.lose(*positions))
        self.assert_word(LeakyQueue, queue, rest)

    def test_positions_of_the_word_before_the_call(self):
        self.assert_lost("abcdef", [], "abcdef")
        self.assert_lost("", [], "")
        self.assert_lost("abcdef", [0], "bcdef")
        self.assert_lost("abcdef", [5], "abcde")
        self.assert_lost("abcdef", [4, 0, 2], "bdf")
        self.assert_lost("abcdef", [0, 2, 4], "bdf")
        self.assert_lost("abcdef", [5, 4, 3, 2, 1, 0], "")
        self.assert_lost("a" * 200 + "b" * 200, range(399, 100, -1), "a" * 101)

    def test_every_choice_of_positions(self):
        word = "abcde"
        for chosen in range(2 ** len(word)):
            positions = [at for at in range(len(word)) if chosen >> at & 1]
            rest = "".join([word[at] for at in range(len(word)) if at not in positions])
            self.assert_lost(word, positions, rest)
            self.assert_lost(word, positions[::-1], rest)

    def test_wrong_positions(self):
        numbers = [0, 1, 2]
        others = [value for value in values_of_other_kinds() if value not in numbers or value is True or value is False]
        for value in others + [3, 4, 10 ** 199, -1, -3, "a", "0", "", object, [0], (0,), {0: 0}, None]:
            with self.subTest(value=value):
                for positions in [[value], [0, value], [2, 0, value], [value, 0], [value, 3], [1, value, value]]:
                    self.assert_unchanged_error(LeakyQueue("abc"), InvalidPosition, "value", value, "lose", *positions)

    def test_the_empty_queue_has_no_position(self):
        for value in [0, -1, 1, True, False]:
            self.assert_unchanged_error(LeakyQueue(), InvalidPosition, "value", value, "lose", value)

    def test_duplicates(self):
        big = int("300")
        again = int("300")
        queue = LeakyQueue("ab" * 200)
        self.assert_unchanged_error(queue, InvalidPosition, "value", again, "lose", big, 0, again, -1)
        for positions in [[0, 0], [2, 1, 2], [0, 1, 2, 0], [1, 1, 1]]:
            queue = LeakyQueue("abc")
            with self.assertRaises(InvalidPosition) as caught:
                queue.lose(*positions)
            self.assert_same(positions[-1], caught.exception.value)
            self.assert_word(LeakyQueue, queue, "abc")

    def test_the_first_wrong_position(self):
        for positions, expected in [([0, 3, 0], 3), ([0, 0, 3], 0), ([1, -1, True], -1), ([1, True, -1], True)]:
            queue = LeakyQueue("abc")
            with self.assertRaises(InvalidPosition) as caught:
                queue.lose(*positions)
            self.assert_same(expected, caught.exception.value)
            self.assert_word(LeakyQueue, queue, "abc")

    def test_by_position_only(self):
        with self.assertRaises(TypeError):
            LeakyQueue("ab").lose(positions=0)


class Equality(QueueCase):
    def test_within_and_across_the_classes(self):
        for kind in CLASSES:
            for other in CLASSES:
                for word in ["", "a", "ab", "a" * 400]:
                    for another in ["", "a", "ab", "ba", "a" * 400]:
                        expected = kind is other and word == another
                        self.assertIs(kind(word) == other(another), expected)
                        self.assertIs(kind(word) != other(another), not expected)

    def test_each_method_by_itself(self):
        # Python asks the subclass first, so each class is asked directly too.
        self.assertIs(Queue("a").__eq__(LeakyQueue("a")), False)
        self.assertIs(LeakyQueue("a").__eq__(Queue("a")), False)

    def test_other_values(self):
        others = [None, True, 0, "a", "", b"a", ["a"], ("a",), {"a": 1}, {"a"}, "Queue('a')", Queue, LeakyQueue]
        for kind in CLASSES:
            for value in others + [Effect("a", "", 1), Missing("a")]:
                self.assertIs(kind("a") == value, False)
                self.assertIs(value == kind("a"), False)
                self.assertIs(kind("a") != value, True)

    def test_equal_after_changes(self):
        for kind in CLASSES:
            queue = kind("a")
            queue.put("b")
            queue.take("a")
            self.assertIs(queue == kind("b"), True)
            self.assertIs(queue == kind("a"), False)


class Clones(QueueCase):
    def test_clones_are_independent(self):
        for kind in CLASSES:
            for change in [lambda q: q.put("c"), lambda q: q.take("a"), lambda q: q.run("Ac"), lambda q: q.refill("h")]:
                queue = kind("ab")
                clone = queue.clone()
                self.assert_word(kind, clone, "ab")
                self.assertIs(clone == queue, True)
                change(clone)
                self.assert_word(kind, queue, "ab")
                self.assertIs(clone == queue, False)
                second = queue.clone()
                change(queue)
                self.assert_word(kind, second, "ab")
                self.assert_word(kind, queue, clone.word)

    def test_clone_of_a_leaky_queue_loses(self):
        queue = LeakyQueue("abc")
        clone = queue.clone()
        clone.lose(0, 1)
        self.assert_word(LeakyQueue, queue, "abc")
        self.assert_word(LeakyQueue, clone, "c")

    def test_clones_of_edges(self):
        for kind in CLASSES:
            for word in ["", "a" * 400]:
                self.assert_word(kind, kind(word).clone(), word)


class Sequences(QueueCase):
    """Long mixed sequences, compared with a plain word."""

    def put(self, source, queue, word):
        item = source.choice("abcd")
        if len(word) == 400:
            self.assert_limit(400, queue.put, item)
            return word
        self.assertIsNone(queue.put(item))
        return word + item

    def take(self, source, queue, word):
        item = source.choice("abcd")
        taken = plain_take(queue.__class__, word, item)
        if taken is None:
            self.assert_error(Missing, "item", item, queue.take, item)
            return word
        self.assert_same(taken[1], queue.take(item))
        return taken[0]

    def run_program(self, source, queue, word):
        program = random_string(source, source.choice(["abcdABCD", "abcd", "aaA", "abcdA"]), source.choice([4, 9, 300]))
        after, index = plain_run(queue.__class__, word, program)
        if index is None:
            self.assertIsNone(queue.run(program))
        else:
            self.assert_failed(queue, program, index)
        return after

    def refill(self, source, queue, word):
        filled = random_string(source, "abcd", source.choice([3, 10, 400]))
        self.assertIsNone(queue.refill(filled))
        return filled

    def lose(self, source, queue, word):
        positions = source.sample(range(len(word)), source.randint(0, len(word)))
        self.assertIsNone(queue.lose(*positions))
        return "".join([item for at, item in enumerate(word) if at not in positions])

    def actions(self, kind):
        many = [self.put] * 4 + [self.take] * 4 + [self.run_program] * 3 + [self.refill]
        return many + [self.lose] if kind is LeakyQueue else many

    def test_long_sequences(self):
        for kind in CLASSES:
            source = random.Random(3)
            queue = kind()
            word = ""
            for count in range(4000):
                word = source.choice(self.actions(kind))(source, queue, word)
                self.assert_word(kind, queue, word)


if __name__ == "__main__":
    unittest.main()

"""What the document promises over the whole program: guarantees, general rules, and the interface."""

import copy
import importlib
import inspect
import itertools
import random
import unittest

from leakyqueue.algebra import commute, roots, unchanged_queues
from leakyqueue.console import Console
from leakyqueue.counting import effects_of, position_of, program_at, program_count, programs
from leakyqueue.effects import Effect
from leakyqueue.exchanges import check_path, distance, exchange_path, exchanged, exchanges, normal_program
from leakyqueue.formats import effect_text, parse_effect, parse_set, set_text
from leakyqueue.network import Network
from leakyqueue.observations import best_probe, consistent
from leakyqueue.powers import most_repetitions, power_core, power_effect, power_item, power_length
from leakyqueue.programs import join, put_counts, puts, steps, takes
from leakyqueue.queues import LeakyQueue, Queue
from leakyqueue.reliable import first_difference, reliable_result
from leakyqueue.results import best_result, check_losses, find_losses, is_possible
from leakyqueue.separation import check_separation, equivalent, separating_queue
from leakyqueue.session import Session
from leakyqueue.sets import contains, image, includes, is_invariant, missing_word, normal_set
from leakyqueue.words import embedding, is_subsequence, prefix_length
from plain import plain_result, plain_values
from plain_sets import random_set
from samples import ALL_STEPS, CheckedCase, random_string, strings_of, order_of_word

# The interface, as the document lists it.
FUNCTIONS = {
    "words": ["is_word(value)", "is_subsequence(part, word)", "embedding(part, word)", "prefix_length(part, word)"],
    "programs": [
        "is_program(value)", "takes(program)", "puts(program)", "put_counts(program)", "steps(program)",
        "join(*programs)",
    ],
    "results": [
        "best_result(program, queue)", "is_possible(program, queue, result)", "find_losses(program, queue, result)",
        "check_losses(program, queue, result, losses)",
    ],
    "separation": [
        "equivalent(first, second)", "separating_queue(first, second)", "check_separation(first, second, queue)",
    ],
    "exchanges": [
        "normal_program(program)", "exchanges(program)", "exchanged(program, index)", "distance(first, second)",
        "exchange_path(first, second)", "check_path(first, second, path)",
    ],
    "powers": [
        "power_effect(program, exponent)", "power_core(program, exponent)", "power_length(program, queue, exponent)",
        "power_item(program, queue, exponent, position)", "most_repetitions(program, queue)",
    ],
    "algebra": ["commute(first, second)", "roots(program, exponent)", "unchanged_queues(program, length)"],
    "counting": [
        "effects_of(takes, puts)", "program_count(effect)", "program_at(effect, position)", "programs(effect)",
        "position_of(program)",
    ],
    "sets": [
        "contains(queues, word)", "includes(first, second)", "missing_word(first, second)", "normal_set(queues)",
        "image(queues, program)", "is_invariant(queues, *programs)",
    ],
    "reliable": ["reliable_result(program, queue)", "first_difference(program)"],
    "observations": ["consistent(programs, observations)", "best_probe(programs, length)"],
    "formats": ["effect_text(effect)", "parse_effect(text)", "set_text(queues)", "parse_set(text)"],
}
QUEUE_METHODS = ["refill(self, word)", "put(self, item)", "take(self, item)", "run(self, program)", "clone(self)"]
CLASSES = {
    "queues": {
        "Queue": ["__init__(self, word='')"] + QUEUE_METHODS,
        "LeakyQueue": ["__init__(self, word='')", "lose(self, *positions)"] + QUEUE_METHODS,
    },
    "effects": {
        "Effect": [
            "__init__(self, takes, puts, core)", "of(program)", "identity()", "is_core(takes, puts, core)",
            "apply(self, queue)", "then(self, *effects)",
        ],
    },
    "network": {
        "Network": [
            "__init__(self, channels, processes)", "positions(self)", "can_finish(self)", "schedule(self)",
            "check_schedule(self, names)", "waiting(self)", "check_positions(self, positions)",
        ],
    },
    "session": {
        "Session": [
            "__init__(self, word='')", "run(self, program)", "undo(self, count=1)", "redo(self, count=1)", "clone(self)",
        ],
    },
    "console": {"Console": ["__init__(self)", "execute(self, command)"]},
}
PROPERTIES = {
    ("queues", "Queue"): ["word"],
    ("queues", "LeakyQueue"): ["word"],
    ("effects", "Effect"): ["takes", "puts", "core", "least_queue"],
    ("session", "Session"): ["word", "program", "effect"],
}
OWN_SPECIALS = {
    ("queues", "Queue"): ["__eq__", "__len__", "__repr__"],
    ("queues", "LeakyQueue"): ["__eq__", "__len__", "__repr__"],
    ("effects", "Effect"): ["__eq__", "__repr__"],
    ("session", "Session"): ["__eq__", "__len__", "__repr__"],
    ("console", "Console"): ["__len__"],
}


def module_of(name):
    return importlib.import_module("leakyqueue." + name)


def listed_name(signature):
    return signature.split("(")[0]


class Interface(unittest.TestCase):
    def test_functions(self):
        for module, signatures in FUNCTIONS.items():
            for signature in signatures:
                with self.subTest(module=module, signature=signature):
                    function = getattr(module_of(module), listed_name(signature))
                    self.assertEqual(listed_name(signature) + str(inspect.signature(function)), signature)
                    self.assertEqual(function.__module__, "leakyqueue." + module)

    def test_methods_stand_in_the_classes_themselves(self):
        for module, classes in CLASSES.items():
            for name, signatures in classes.items():
                kind = getattr(module_of(module), name)
                for signature in signatures:
                    with self.subTest(kind=name, signature=signature):
                        method = listed_name(signature)
                        self.assertIn(method, vars(kind))
                        self.assertEqual(method + str(inspect.signature(getattr(kind, method))), signature)

    def test_properties_and_special_methods(self):
        for (module, name), properties in PROPERTIES.items():
            for each in properties:
                self.assertIsInstance(vars(getattr(module_of(module), name))[each], property)
        for (module, name), methods in OWN_SPECIALS.items():
            for each in methods:
                self.assertIn(each, vars(getattr(module_of(module), name)))

    def test_values_of_modules_and_classes(self):
        self.assertEqual(module_of("words").ITEMS, "abcdefgh")
        self.assertEqual(Effect.MAX_ITEMS, 400)
        self.assertTrue(issubclass(LeakyQueue, Queue))
        self.assertIsInstance(vars(Effect)["of"], classmethod)
        self.assertIsInstance(vars(Effect)["identity"], classmethod)
        self.assertIsInstance(vars(Effect)["is_core"], staticmethod)

    def test_steps_and_programs_are_iterations(self):
        for iteration in [steps("a"), programs(Effect("", "a", 0))]:
            self.assertIs(iter(iteration), iteration)


def sample_calls():
    """Each function and method with arguments by the names of its parameters, in their order."""
    effect = Effect("a", "ab", 0)
    queues = [[("optional", "a"), ("repeat", "bc")], []]
    other = [[("repeat", "c")]]
    network = {"channels": {"x": "a"}, "processes": {"p": [("x", "A"), ("x", "B")]}}
    return [
        (is_subsequence, {"part": "ab", "word": "cab"}), (embedding, {"part": "ab", "word": "cab"}),
        (prefix_length, {"part": "abc", "word": "cab"}),
        (takes, {"program": "aB"}), (puts, {"program": "aB"}), (put_counts, {"program": "aB"}),
        (module_of("words").is_word, {"value": "a"}), (module_of("programs").is_program, {"value": "aB"}),
        (lambda **named: list(steps(**named)) if named else None, {"program": "aB"}),
        (best_result, {"program": "aBc", "queue": "bab"}),
        (is_possible, {"program": "aBc", "queue": "bab", "result": "ac"}),
        (find_losses, {"program": "aBc", "queue": "bab", "result": "ac"}),
        (check_losses, {"program": "B", "queue": "aab", "result": "", "losses": [[0, 1], []]}),
        (Effect, {"takes": "ab", "puts": "b", "core": 1}), (Effect.of, {"program": "abB"}),
        (Effect.is_core, {"takes": "ab", "puts": "b", "core": 1}), (effect.apply, {"queue": "ba"}),
        (equivalent, {"first": "a", "second": "aA"}), (separating_queue, {"first": "a", "second": "aA"}),
        (check_separation, {"first": "a", "second": "aA", "queue": ""}),
        (normal_program, {"program": "abBA"}), (exchanges, {"program": "aAb"}),
        (exchanged, {"program": "aAb", "index": 1}), (distance, {"first": "cdA", "second": "Acd"}),
        (exchange_path, {"first": "cdA", "second": "Acd"}),
        (check_path, {"first": "cA", "second": "Ac", "path": [0]}),
        (power_effect, {"program": "aAA", "exponent": 3}), (power_core, {"program": "aAA", "exponent": 3}),
        (power_length, {"program": "aaA", "queue": "b", "exponent": 7}),
        (power_item, {"program": "abA", "queue": "", "exponent": 5, "position": 1}),
        (most_repetitions, {"program": "aAA", "queue": "aaa"}),
        (commute, {"first": "a", "second": "A"}), (roots, {"program": "ABbABb", "exponent": 2}),
        (unchanged_queues, {"program": "Aa", "length": 3}),
        (effects_of, {"takes": "a", "puts": "ab"}), (program_count, {"effect": effect}),
        (program_at, {"effect": effect, "position": 1}), (position_of, {"program": "abA"}),
        (contains, {"queues": queues, "word": "ab"}), (includes, {"first": queues, "second": other}),
        (missing_word, {"first": other, "second": queues}), (normal_set, {"queues": queues}),
        (image, {"queues": queues, "program": "aB"}), (is_invariant, {"queues": queues}),
        (reliable_result, {"program": "Ab", "queue": "ac"}), (first_difference, {"program": "A"}),
        (lambda **named: Network(**named).positions() if named else None, network),
        (Network(**network).check_schedule, {"names": ["p"]}),
        (Network(**network).check_positions, {"positions": {"p": 1}}),
        (consistent, {"programs": ["aA", "A"], "observations": [("a", "")]}),
        (best_probe, {"programs": ["AB", "BA"], "length": 2}),
        (Queue, {"word": "ab"}), (LeakyQueue, {"word": "ab"}), (Session, {"word": "ab"}),
        (effect_text, {"effect": effect}), (parse_effect, {"text": "a ab 0"}), (set_text, {"queues": queues}),
        (parse_set, {"text": "a {bc} | -"}), (Console().execute, {"command": "best - ab"}),
    ]


def is_wrapped(call):
    return getattr(call, "__name__", "") == "<lambda>"


class Arguments(CheckedCase):
    def test_by_name_in_another_order(self):
        for call, named in sample_calls():
            before = copy.deepcopy(named)
            expected = call(**named)
            reverse = {name: named[name] for name in reversed(list(named))}
            self.assertEqual(call(**reverse), expected)
            if not is_wrapped(call):
                with self.subTest(call=call.__name__):
                    self.assertEqual(call(*named.values()), expected)
                    first = list(named)[0]
                    rest = {name: named[name] for name in reversed(list(named)) if name != first}
                    self.assertEqual(call(named[first], **rest), expected)
            self.assertEqual(named, before)

    def test_equal_calls_return_equal_results(self):
        for (call, named), (same_call, same_named) in zip(sample_calls(), sample_calls()):
            self.assertEqual(call(**named), call(**named))
            self.assertEqual(call(**named), same_call(**same_named))

    def test_a_changed_result_changes_no_later_one(self):
        for call, named in sample_calls():
            expected = copy.deepcopy(call(**named))
            result = call(**named)
            if isinstance(result, list):
                for item in result:
                    if isinstance(item, list):
                        item.append(None)
                result.append(None)
            if isinstance(result, dict):
                result.clear()
            self.assertEqual(call(**named), expected)

    def test_methods_by_name(self):
        for kind in [Queue, LeakyQueue]:
            queue = kind()
            self.assertEqual([queue.word, queue.refill(word="ab"), queue.put(item="c")], ["", None, None])
            self.assertEqual([queue.take(item="a"), queue.run(program="Bd"), queue.word], [0, None, "cd"])
        session = Session()
        self.assertEqual([session.run(program="ab"), session.undo(count=1), session.redo(count=1)], [0, "b", "b"])
        self.assertEqual([session.undo(), session.redo(), session.word], ["b", "b", "ab"])

    def test_starred_parameters_by_position_only(self):
        self.assertEqual(join(), "")
        self.assertEqual(Effect.identity().then(), Effect.identity())
        self.assertIsNone(LeakyQueue("a").lose())
        for call, name in [
            (join, "programs"), (Effect.identity().then, "effects"), (LeakyQueue("a").lose, "positions"),
        ]:
            with self.assertRaises(TypeError):
                call(**{name: ()})
        with self.assertRaises(TypeError):
            is_invariant([], programs=())


def drawn_pair(source):
    """Two programs, in half of the cases equivalent ones, and otherwise mostly with the same steps."""
    first = random_string(source, source.choice(["aA", "abAB", "aabAB", "abABB", "abcABC"]), 9)
    if source.randrange(2):
        effect = Effect.of(first)
        return first, program_at(effect, source.randrange(program_count(effect)))
    for k in range(5):
        second = "".join(source.sample(first, len(first)))
        if plain_values(second) != plain_values(first):
            return first, second
    return first, first + source.choice("aA")


class Agreement(CheckedCase):
    """All functions that tell whether programs act alike agree."""

    def answers(self, first, second):
        one, other = Effect.of(first), Effect.of(second)
        path = exchange_path(first, second)
        return [
            plain_values(first) == plain_values(second),
            equivalent(first, second),
            one == other,
            separating_queue(first, second) is None,
            not check_separation(first, second, separating_queue(first, second)),
            normal_program(first) == normal_program(second),
            distance(first, second) is not None,
            path is not None,
            path is not None and check_path(first, second, path) and len(path) == distance(first, second),
            second in list(programs(one)),
            program_at(one, position_of(second)) == second,
            power_effect(first, 1) == power_effect(second, 1),
            roots(first, 1) == roots(second, 1),
            effect_text(one) == effect_text(other),
            parse_effect(effect_text(one)) == other,
            Console().execute("same " + (first or "-") + " " + (second or "-")) == "yes",
            Console().execute("distance " + (first or "-") + " " + (second or "-")) != "none",
            Console().execute("effect " + (first or "-")) == Console().execute("effect " + (second or "-")),
            Console().execute("normal " + (first or "-")) == Console().execute("normal " + (second or "-")),
            self.session_effect(first) == self.session_effect(second),
        ]

    def session_effect(self, program):
        """The effect of a session that can perform the program, whose steps are cancelled and performed again."""
        session = Session(takes(program) + "abc")
        session.run(program)
        if program:
            session.undo(len(program))
            session.redo(len(program))
        return session.effect

    def test_drawn_pairs(self):
        source = random.Random(150)
        counts = {True: 0, False: 0}
        for count in range(400):
            first, second = drawn_pair(source)
            answers = self.answers(first, second)
            with self.subTest(first=first, second=second):
                self.assertEqual(answers, [answers[0]] * len(answers))
            counts[answers[0]] += 1
        self.assertGreater(min(counts.values()), 150)

    def test_equivalent_programs_do_the_same(self):
        source = random.Random(151)
        for count in range(150):
            first, second = drawn_pair(source)
            if equivalent(first, second):
                self.assert_alike(source, first, second)
            else:
                queue = separating_queue(first, second)
                self.assertNotEqual(plain_result(first, queue), plain_result(second, queue))
                self.assertNotEqual(best_result(first, queue), best_result(second, queue))
                observation = (queue, best_result(first, queue))
                self.assertEqual(consistent([first, second], [observation]), [0])
                if len(queue) <= 3:
                    self.assertLessEqual(order_of_word(best_probe([first, second], 3)), order_of_word(queue))

    def assert_alike(self, source, first, second):
        queues = random_set(source, "abc", 3, 4)
        self.assertEqual(image(queues, first), image(queues, second))
        self.assertIs(is_invariant(queues, first), is_invariant(queues, second))
        self.assertEqual(best_probe([first, second], 3), "")
        self.assertIs(commute(first, second), commute(first, first))
        exponent = source.choice([0, 2, 10, 10 ** 30])
        self.assertEqual(power_core(first, exponent), power_core(second, exponent))
        for queue in [random_string(source, "abc", 6) for k in range(5)] + [takes(first)]:
            result = best_result(first, queue)
            self.assertEqual(best_result(second, queue), result)
            self.assertEqual(Effect.of(second).apply(queue), result)
            self.assertEqual(consistent([first, second], [(queue, result)]), [0, 1])
            self.assertEqual(most_repetitions(first, queue), most_repetitions(second, queue))
            self.assertEqual(power_length(first, queue, exponent), power_length(second, queue, exponent))
            if result is not None:
                self.assertIs(is_possible(second, queue, result), True)
                self.assertIs(check_losses(second, queue, result, find_losses(second, queue, result)), True)

    def test_results_and_sets(self):
        """The image of the subsequences of a queue, the best result, and the one without losses."""
        source = random.Random(152)
        for count in range(200):
            program, queue = random_string(source, "abcABC", 8), random_string(source, "abc", 8)
            result = best_result(program, queue)
            found = image([[("optional", item) for item in queue]], program)
            self.assertEqual(found, [] if result is None else [[("optional", item) for item in result]])
            leaky = LeakyQueue(queue)
            session = Session(queue)
            if result is not None:
                leaky.run(program)
                self.assertEqual(leaky.word, result)
                lost = session.run(program)
                self.assertEqual(lost, len(queue) + len(puts(program)) - len(takes(program)) - len(result))
                self.assertEqual(session.word, result)
                self.assertEqual(lost, sum([len(each) for each in find_losses(program, queue, result)]))
                for other in [random_string(source, "abc", 4) for k in range(4)] + [result]:
                    self.assertIs(contains(found, other), is_possible(program, queue, other))
            if reliable_result(program, queue) is not None:
                self.assertEqual(reliable_result(program, queue), result)

    def test_repetition_counting_and_effects(self):
        source = random.Random(153)
        for count in range(150):
            program = random_string(source, source.choice(["aA", "abAB", "aAAB"]), 8)
            exponent = source.randint(0, 5)
            effect = Effect.of(program * exponent)
            self.assertEqual(power_effect(program, exponent), effect)
            self.assertEqual(Effect.identity().then(*[Effect.of(program)] * exponent), effect)
            self.assertEqual(power_core(program, exponent), effect.core)
            self.assertIn(effect, effects_of(takes(program * exponent), puts(program * exponent)))
            if exponent:
                self.assertIn(Effect.of(program), roots(program * exponent, exponent))
            self.assertIs(commute(program, program * exponent), True)

    def test_a_process_and_its_program(self):
        """A process on one channel gets as far as a leaky queue does."""
        source = random.Random(154)
        for count in range(200):
            program, queue = random_string(source, "abAB", 8), random_string(source, "ab", 5)
            network = Network({"x": queue}, {"p": [("x", step) for step in program]})
            position = network.positions()["p"]
            self.assertIs(network.can_finish(), best_result(program, queue) is not None)
            self.assertIsNotNone(best_result(program[:position], queue))
            if position < len(program):
                self.assertIsNone(best_result(program[:position + 1], queue))


class Renaming(CheckedCase):
    """Renaming the items by a permutation renames every result."""

    def setUp(self):
        self.source = random.Random(155)

    def drawn_names(self):
        items = list("abcdefgh")
        self.source.shuffle(items)
        return str.maketrans("abcdefghABCDEFGH", "".join(items) + "".join(items).upper())

    def renamed_set(self, queues, names):
        return [[(kind, "".join(sorted(items.translate(names)))) for kind, items in pattern] for pattern in queues]

    def renamed_effect(self, effect, names):
        return Effect(effect.takes.translate(names), effect.puts.translate(names), effect.core)

    def renamed(self, value, names):
        if isinstance(value, str):
            return value.translate(names)
        if isinstance(value, Effect):
            return self.renamed_effect(value, names)
        if isinstance(value, list):
            return [self.renamed(item, names) for item in value]
        if isinstance(value, tuple):
            return tuple([self.renamed(item, names) for item in value])
        return value

    def assert_renamed(self, call, arguments, names):
        renamed = [self.renamed(argument, names) for argument in arguments]
        self.assertEqual(call(*renamed), self.renamed(call(*arguments), names), (call.__name__, arguments, renamed))

    def test_words_programs_and_effects(self):
        for count in range(150):
            names = self.drawn_names()
            letters = self.source.choice(["aA", "abAB", "abcABC", ALL_STEPS])
            first = random_string(self.source, letters, 8)
            second = "".join(self.source.sample(first, len(first)))
            word, queue = [random_string(self.source, letters[:len(letters) // 2], 6) for k in range(2)]
            number = self.source.randint(0, 3)
            for call, arguments in [
                (is_subsequence, [word, queue]), (embedding, [word, queue]), (prefix_length, [word, queue]),
                (takes, [first]), (puts, [first]), (put_counts, [first]), (join, [first, second]),
                (best_result, [first, queue]), (is_possible, [first, queue, word]), (find_losses, [first, queue, word]),
                (Effect.of, [first]), (equivalent, [first, second]), (check_separation, [first, second, queue]),
                (normal_program, [first]), (exchanges, [first]), (distance, [first, second]),
                (exchange_path, [first, second]), (power_effect, [first, number]), (power_core, [first, 10 ** 20]),
                (power_length, [first, queue, 10 ** 20]), (power_item, [first, queue, 10 ** 20, number]),
                (most_repetitions, [first, queue]), (commute, [first, second]), (roots, [first * 2, 2]),
                (effects_of, [word, queue]), (program_count, [Effect.of(first)]),
                (program_at, [Effect.of(first), number]), (position_of, [first]), (reliable_result, [first, queue]),
                (consistent, [[first, second], [(queue, plain_result(first, queue))]]),
            ]:
                self.assert_renamed(call, arguments, names)
            if first:
                self.assert_renamed(unchanged_queues, [first, 6], names)

    def test_first_words_in_the_order_of_words(self):
        """The order of words is not renamed; the lengths are the same, and the renamed words do the same."""
        for count in range(150):
            names = self.drawn_names()
            first, second = drawn_pair(self.source)
            queue = separating_queue(first, second)
            other = separating_queue(first.translate(names), second.translate(names))
            if queue is None:
                self.assertIsNone(other)
            else:
                self.assertEqual(len(other), len(queue))
                self.assertIs(check_separation(first.translate(names), second.translate(names), queue.translate(names)), True)
            difference, other = first_difference(first), first_difference(first.translate(names))
            if difference is None:
                self.assertIsNone(other)
            else:
                self.assertEqual(len(difference), len(other))
            probes = [best_probe([first, second], 2), best_probe([first.translate(names), second.translate(names)], 2)]
            self.assertEqual(len(probes[0]), len(probes[1]))

    def test_sets(self):
        for count in range(300):
            names = self.drawn_names()
            queues, others = [random_set(self.source, "abc", 4, 5) for k in range(2)]
            program, word = random_string(self.source, "abcABC", 5), random_string(self.source, "abc", 5)
            renamed, others_renamed = self.renamed_set(queues, names), self.renamed_set(others, names)
            self.assertIs(contains(renamed, word.translate(names)), contains(queues, word))
            self.assertIs(includes(renamed, others_renamed), includes(queues, others))
            self.assertIs(missing_word(renamed, others_renamed) is None, missing_word(queues, others) is None)
            self.assertEqual(normal_set(renamed), self.renamed_set(normal_set(queues), names))
            self.assertEqual(image(renamed, program.translate(names)), self.renamed_set(image(queues, program), names))
            self.assertIs(is_invariant(renamed, program.translate(names)), is_invariant(queues, program))

    def test_queues_sessions_and_networks(self):
        for count in range(150):
            names = self.drawn_names()
            queue, program = random_string(self.source, "abcd", 6), random_string(self.source, "abcdABCD", 6)
            sessions = [Session(queue), Session(queue.translate(names))]
            if plain_result(program, queue) is not None:
                self.assertEqual(sessions[0].run(program), sessions[1].run(program.translate(names)))
                self.assertEqual(sessions[0].word.translate(names), sessions[1].word)
                self.assertEqual(self.renamed_effect(sessions[0].effect, names), sessions[1].effect)
            plan = [("x", step) for step in program]
            one = Network({"x": queue}, {"p": plan})
            other = Network({"x": queue.translate(names)}, {"p": [("x", step.translate(names)) for _, step in plan]})
            self.assertEqual(one.positions(), other.positions())
            self.assertEqual(one.schedule(), other.schedule())
            waits = {name: (channel, item.translate(names)) for name, (channel, item) in one.waiting().items()}
            self.assertEqual(waits, other.waiting())


class Guarantees(CheckedCase):
    def test_separating_queues_are_the_first_ones(self):
        """Guarantee 2, for all pairs of programs with the same takes and puts."""
        words = list(strings_of("abc", 4))
        for taken, given in [("ab", "ba"), ("aa", "ab"), ("ba", "aab")]:
            all_programs = [program for effect in effects_of(taken, given) for program in programs(effect)]
            for first, second in itertools.product(all_programs, repeat=2):
                differing = [word for word in words if plain_result(first, word) != plain_result(second, word)]
                if differing:
                    self.assertEqual(separating_queue(first, second), differing[0])

    def test_programs_of_an_effect_are_connected(self):
        """Guarantee 3: the exchanges of the programs of an effect lead to each other and nowhere else."""
        for taken, given in [("ab", "ab"), ("aab", "aba"), ("aaa", "aaa"), ("ba", "abab")]:
            for effect in effects_of(taken, given):
                members = list(programs(effect))
                reached = {exchanged(program, index) for program in members for index in exchanges(program)}
                self.assertLessEqual(reached, set(members))
                for program in members:
                    self.assertEqual(normal_program(program), members[0])
                    path = exchange_path(members[0], program)
                    self.assertIs(check_path(members[0], program, path), True)

    def test_sessions_answer_like_new_ones(self):
        """Guarantee 10, except to redo."""
        source = random.Random(156)
        for count in range(60):
            session = Session("abab")
            for k in range(12):
                program = random_string(source, "abA", 3)
                if plain_result(program, session.word) is not None:
                    session.run(program)
                if len(session) and source.randrange(2):
                    session.undo(source.randint(1, len(session)))
                fresh = Session("abab")
                fresh.run(session.program)
                self.assertEqual(
                    [session.word, session.program, session.effect, len(session), repr(session), session == fresh],
                    [fresh.word, fresh.program, fresh.effect, len(fresh), repr(fresh), True],
                )
                self.assertEqual(session.clone().run("ab"), fresh.clone().run("ab"))
                if len(session):
                    self.assertEqual(session.clone().undo(), fresh.clone().undo())


if __name__ == "__main__":
    unittest.main()

"""Point 14, networks: leakyqueue/network.py."""

import copy
import itertools
import random
import unittest

from leakyqueue.errors import InvalidNetwork
from leakyqueue.network import Network
from plain import step_on, subsequences
from samples import CheckedCase, few_wrong_words, no_numbers, values_of_other_kinds, wrong_words

LISTED = ["__init__", "positions", "can_finish", "schedule", "check_schedule", "waiting", "check_positions"]
NAMES = ["a", "b", "left", "right", "abcdefgh", "z", "zz", "y"]


def with_losses(held):
    """All contents that the channels can have after losses."""
    channels = sorted(held)
    kept = itertools.product(*[sorted(subsequences(held[channel])) for channel in channels])
    return [dict(zip(channels, words)) for words in kept]


def steps_from(processes, places, held):
    """All states that one step leads to, with losses before it."""
    for name in processes:
        if places[name] < len(processes[name]):
            channel, step = processes[name][places[name]]
            for word in sorted(step_on(subsequences(held[channel]), step)):
                yield {**places, name: places[name] + 1}, {**held, channel: word}


def frozen(state):
    return tuple([tuple(sorted(part.items())) for part in state])


def reachable_places(channels, processes):
    """The positions of all states that some order of steps and some losses lead to."""
    start = ({name: 0 for name in processes}, dict(channels))
    seen = {frozen(start)}
    layer = [start]
    found = []
    while layer:
        longer = []
        for places, held in layer:
            found.append(places)
            for state in steps_from(processes, places, held):
                if frozen(state) not in seen:
                    seen.add(frozen(state))
                    longer.append(state)
        layer = longer
    return found


def plain_check_schedule(channels, processes, names):
    """Whether some losses allow the next steps in this order."""
    states = [({name: 0 for name in processes}, dict(channels))]
    for name in names:
        following = {}
        for places, held in states:
            for after in steps_from({name: processes[name]}, places, held):
                following[frozen(after)] = after
        states = list(following.values())
    return states != []


def is_part(part, word):
    left = iter(word)
    return all(item in left for item in part)


def plain_check_positions(channels, processes, positions):
    """The condition, word by word as the document states it."""
    for name in processes:
        if positions[name] == len(processes[name]):
            continue
        channel, step = processes[name][positions[name]]
        if step.islower():
            return False
        done = [each for other in processes for each in processes[other][:positions[other]] if each[0] == channel]
        taken = [each[1].lower() for each in done if each[1].isupper()] + [step.lower()]
        given = list(channels[channel]) + [each[1] for each in done if each[1].islower()]
        if is_part(taken, given):
            return False
    return True


def random_network(source, most_channels, most_processes, longest):
    """A small network, where each channel has at most one process at either end."""
    channels = {name: "" for name in source.sample(NAMES, source.randint(1, most_channels))}
    for name in channels:
        channels[name] = "".join([source.choice("ab") for k in range(source.randint(0, 2))])
    processes = {name: [] for name in source.sample(NAMES, source.randint(1, most_processes))}
    putting = {channel: source.choice(sorted(processes)) for channel in sorted(channels)}
    taking = {channel: source.choice(sorted(processes)) for channel in sorted(channels)}
    for name in processes:
        steps = [(channel, item) for channel in sorted(channels) if putting[channel] == name for item in "ab"]
        steps += [(channel, item) for channel in sorted(channels) if taking[channel] == name for item in "AB"]
        if steps:
            processes[name] = [source.choice(steps) for k in range(source.randint(0, longest))]
    return channels, processes


def small_networks(seed, count):
    source = random.Random(seed)
    for k in range(count):
        yield random_network(source, 3, 3, 4)


class NetworkCase(CheckedCase):
    def assert_invalid(self, name, channels, processes):
        """The constructor raises the error with this name, and changes no argument."""
        before = copy.deepcopy((channels, processes))
        with self.assertRaises(InvalidNetwork) as caught:
            Network(channels, processes)
        self.assertEqual(caught.exception.__class__, InvalidNetwork)
        self.assertEqual(caught.exception.name, name)
        self.assertEqual((channels, processes), before)


class Examples(unittest.TestCase):
    def test_document_example(self):
        n = Network({'x': '', 'y': 'b'}, {'left': [('x', 'a'), ('y', 'A')], 'right': [('x', 'A'), ('y', 'c')]})
        self.assertEqual(
            [n.positions(), n.can_finish(), n.waiting(), n.check_schedule(['left', 'right']),
             n.check_positions({'left': 1, 'right': 2})],
            [{'left': 1, 'right': 2}, False, {'left': ('y', 'a')}, True, True],
        )

    def test_methods_stand_in_the_class_itself(self):
        for name in LISTED:
            self.assertIn(name, vars(Network))


class SmallNetworks(NetworkCase):
    def test_positions_against_all_orders_and_losses(self):
        finished = []
        for channels, processes in small_networks(90, 300):
            with self.subTest(channels=channels, processes=processes):
                found = reachable_places(channels, processes)
                greatest = {name: max([places[name] for places in found]) for name in processes}
                network = Network(channels, processes)
                self.assertEqual(network.positions(), greatest)
                self.assertIn(network.positions(), found)
                lengths = {name: len(processes[name]) for name in processes}
                finished.append(greatest == lengths)
                self.assertIs(network.can_finish(), finished[-1])
        self.assertGreater(min(finished.count(True), finished.count(False)), 50)

    def test_schedules_lead_to_the_positions(self):
        for channels, processes in small_networks(91, 300):
            network = Network(channels, processes)
            names = network.schedule()
            self.assertIs(names.__class__, list)
            self.assertEqual({name: names.count(name) for name in processes}, network.positions())
            self.assertTrue(plain_check_schedule(channels, processes, names))
            self.assertIs(network.check_schedule(names), True)

    def test_check_schedule_against_performing_the_steps(self):
        source = random.Random(92)
        answers = []
        for channels, processes in small_networks(93, 400):
            network = Network(channels, processes)
            names = network.schedule() + [source.choice(sorted(processes)) for k in range(source.randint(0, 1))]
            if source.randrange(2):
                source.shuffle(names)
            answers.append(plain_check_schedule(channels, processes, names))
            self.assertIs(network.check_schedule(names), answers[-1])
        self.assertGreater(min(answers.count(True), answers.count(False)), 50)

    def test_waiting(self):
        for channels, processes in small_networks(94, 300):
            network = Network(channels, processes)
            positions = network.positions()
            expected = {}
            for name in sorted(processes):
                if positions[name] < len(processes[name]):
                    channel, step = processes[name][positions[name]]
                    self.assertTrue(step.isupper())
                    expected[name] = (channel, step.lower())
            self.assertEqual(network.waiting(), expected)
            self.assertEqual(list(network.waiting()), sorted(expected))
            for wait in network.waiting().values():
                self.assertIs(wait.__class__, tuple)

    def test_check_positions_for_all_positions(self):
        accepted = 0
        for channels, processes in small_networks(95, 200):
            network = Network(channels, processes)
            ranges = [range(-1, len(processes[name]) + 2) for name in sorted(processes)]
            for places in itertools.product(*ranges):
                positions = dict(zip(sorted(processes), places))
                inside = all([0 <= positions[name] <= len(processes[name]) for name in processes])
                expected = inside and plain_check_positions(channels, processes, positions)
                self.assertIs(network.check_positions(positions), expected)
                accepted += expected
            self.assertIs(network.check_positions(network.positions()), True)
        self.assertGreater(accepted, 200)

    def test_accepted_positions_are_never_passed(self):
        others = 0
        for channels, processes in small_networks(96, 120):
            network = Network(channels, processes)
            greatest = network.positions()
            for places in itertools.product(*[range(len(processes[name]) + 1) for name in sorted(processes)]):
                positions = dict(zip(sorted(processes), places))
                if network.check_positions(positions):
                    self.assertTrue(all([greatest[name] <= positions[name] for name in processes]))
                    others += positions != greatest
        self.assertGreater(others, 10)


class Channels(NetworkCase):
    def test_one_process_at_both_ends(self):
        network = Network({"x": ""}, {"p": [("x", "a"), ("x", "b"), ("x", "B"), ("x", "A")]})
        self.assertEqual(network.positions(), {"p": 3})
        self.assertEqual(network.waiting(), {"p": ("x", "a")})
        self.assertEqual(network.schedule(), ["p", "p", "p"])

    def test_the_initial_word(self):
        takes = [("x", "A"), ("x", "B"), ("x", "A")]
        for word, position in [("", 0), ("b", 0), ("a", 1), ("cab", 2), ("ba", 1), ("acbca", 3), ("aab", 2), ("abba", 3)]:
            self.assertEqual(Network({"x": word}, {"p": takes}).positions(), {"p": position})

    def test_new_items_come_behind_the_initial_word(self):
        processes = {"p": [("x", "a"), ("x", "b")], "q": [("x", "C"), ("x", "A"), ("x", "D")]}
        self.assertEqual(Network({"x": "c"}, processes).positions(), {"p": 2, "q": 2})
        self.assertEqual(Network({"x": ""}, processes).positions(), {"p": 2, "q": 0})
        self.assertEqual(Network({"x": "ad"}, processes).waiting(), {"q": ("x", "c")})

    def test_processes_that_wait_for_each_other(self):
        ring = {"p": [("y", "A"), ("x", "a")], "q": [("x", "A"), ("y", "a")]}
        network = Network({"x": "", "y": ""}, ring)
        self.assertEqual(network.positions(), {"p": 0, "q": 0})
        self.assertEqual(network.waiting(), {"p": ("y", "a"), "q": ("x", "a")})
        self.assertEqual(network.schedule(), [])
        self.assertIs(network.check_positions({"p": 0, "q": 0}), True)
        started = Network({"x": "", "y": "a"}, ring)
        self.assertIs(started.can_finish(), True)
        self.assertEqual(started.waiting(), {})
        # The condition of the first network also holds where the processes could not get.
        self.assertIs(network.check_positions({"p": 2, "q": 2}), True)

    def test_nothing(self):
        network = Network({}, {})
        self.assertEqual(
            [network.positions(), network.can_finish(), network.schedule(), network.waiting()], [{}, True, [], {}])
        self.assertIs(network.check_schedule([]), True)
        self.assertIs(network.check_positions({}), True)
        self.assertIs(network.check_positions({"p": 0}), False)
        idle = Network({"x": "a"}, {"p": []})
        self.assertEqual([idle.positions(), idle.can_finish(), idle.schedule()], [{"p": 0}, True, []])
        self.assertIs(idle.check_schedule(["p"]), False)
        self.assertIs(idle.check_positions({"p": 0}), True)

    def test_more_than_400_items(self):
        puts = [("x", "a")] * 100
        network = Network({"x": "a" * 400}, {"p": puts, "q": [("x", "A")] * 99 + [("x", "B")]})
        self.assertEqual(network.positions(), {"p": 100, "q": 99})
        self.assertIs(network.check_schedule(["p"] * 100 + ["q"] * 99), True)
        self.assertIs(network.check_schedule(["p"] * 100 + ["q"] * 100), False)
        network = Network({"x": "a" * 400}, {"p": [("x", "a")] * 99 + [("x", "b")], "q": [("x", "B")]})
        self.assertEqual(network.positions(), {"p": 100, "q": 1})
        self.assertIs(network.check_schedule(["p"] * 100 + ["q"]), True)
        self.assertIs(network.check_schedule(["p"] * 99 + ["q", "p"]), False)

    def test_rings_of_8_processes(self):
        names = ["pa", "pb", "pc", "pd", "pe", "pf", "pg", "ph"]
        for shift in [1, 3, 7]:
            processes = {
                name: [(names[at], "A"), (names[(at + shift) % 8], "a")] * 50 for at, name in enumerate(names)
            }
            channels = {name: "" for name in names}
            self.assertEqual(Network(channels, processes).positions(), {name: 0 for name in names})
            for start in names:
                network = Network({**channels, start: "a"}, processes)
                self.assertIs(network.can_finish(), True)
                self.assertEqual(len(network.schedule()), 800)
                self.assertIs(network.check_schedule(network.schedule()), True)
                self.assertIs(network.check_schedule(network.schedule()[::-1]), False)

    def test_chains_of_8_processes(self):
        for names in [sorted(NAMES), sorted(NAMES, reverse=True), NAMES]:
            processes = {names[0]: [(names[1], "a"), (names[1], "b")] * 50}
            for at in range(1, 7):
                processes[names[at]] = [(names[at], "A"), (names[at + 1], "a")] * 50
            processes[names[7]] = [(names[7], "A")] * 49 + [(names[7], "B")] + [(names[7], "A")] * 50
            network = Network({name: "" for name in names}, processes)
            expected = {name: 100 for name in names}
            expected[names[7]] = 49
            self.assertEqual(network.positions(), expected)
            self.assertEqual(network.waiting(), {names[7]: (names[7], "b")})
            self.assertIs(network.check_schedule(network.schedule()), True)
            self.assertIs(network.check_positions(expected), True)


class AnyValues(NetworkCase):
    def setUp(self):
        self.network = Network({"x": "", "y": "b"}, {"left": [("x", "a"), ("y", "A")], "right": [("x", "A"), ("y", "c")]})

    def test_schedules_of_any_kind(self):
        for value in values_of_other_kinds():
            with self.subTest(value=value):
                self.assertIs(self.network.check_schedule(value), value == [])
                self.assertIs(self.network.check_schedule([value]), False)
                self.assertIs(self.network.check_schedule(["left", value]), False)
        for value in ["left", ("left",), {"left": 1}, ["x"], ["Left"], [""], ["left", "left"], ["right"], [["left"]]]:
            self.assertIs(self.network.check_schedule(value), False)
        for value in [[], ["left"], ["left", "right"], ["left", "right", "right"]]:
            before = list(value)
            self.assertIs(self.network.check_schedule(value), True)
            self.assertEqual(value, before)
        self.assertIs(self.network.check_schedule(["left", "right", "right", "left"]), False)
        self.assertIs(self.network.check_schedule(["left"] * 40000), False)

    def test_positions_of_any_kind(self):
        for value in values_of_other_kinds():
            with self.subTest(value=value):
                self.assertIs(self.network.check_positions(value), False)
        for value in no_numbers() + [-1, 3, 10 ** 30]:
            with self.subTest(value=value):
                self.assertIs(self.network.check_positions({"left": 1, "right": value}), False)
                self.assertIs(self.network.check_positions({"left": value, "right": 2}), False)
        finished = Network({}, {"p": [], "q": []})
        for value in [True, False, None, "0", [0]]:
            self.assertIs(finished.check_positions({"p": 0, "q": value}), False)
        # True is no position, although it is equal to 1.
        self.assertIs(self.network.check_positions({"left": True, "right": 2}), False)
        self.assertIs(self.network.check_positions({"left": 1, "right": 2}), True)
        self.assertIs(self.network.check_positions([("left", 1), ("right", 2)]), False)

    def test_names_left_out_or_added(self):
        for value in [
            {}, {"left": 1}, {"right": 2}, {"left": 1, "right": 2, "x": 0}, {"left": 1, "right": 2, "": 0},
            {"left": 1, "right": 2, 0: 0}, {"left": 1, "Right": 2}, {"left": 1, "x": 2}, {"left": 1, ("right",): 2},
            {"left": 1, None: 2}, {1: 1, 2: 2},
        ]:
            self.assertIs(self.network.check_positions(value), False)
        for value in [{"left": 1, "right": 2}, {"right": 2, "left": 1}]:
            before = dict(value)
            self.assertIs(self.network.check_positions(value), True)
            self.assertEqual(value, before)
            self.assertEqual(list(value), list(before))

    def test_by_name(self):
        network = Network(processes={"p": [("x", "A")]}, channels={"x": "a"})
        self.assertIs(network.can_finish(), True)
        self.assertIs(network.check_schedule(names=["p"]), True)
        self.assertIs(network.check_positions(positions={"p": 1}), True)
        self.assertIs(network.check_positions(positions={"p": 0}), False)


class Orders(NetworkCase):
    def test_names_in_alphabetical_order(self):
        source = random.Random(97)
        for channels, processes in small_networks(98, 100):
            channel_names, names = sorted(channels), sorted(processes)
            expected = Network(channels, processes)
            for k in range(3):
                source.shuffle(channel_names)
                source.shuffle(names)
                network = Network(
                    {name: channels[name] for name in channel_names}, {name: processes[name] for name in names})
                self.assertEqual(list(network.positions()), sorted(names))
                self.assertEqual(list(network.waiting()), sorted(network.waiting()))
                self.assertEqual(network.positions(), expected.positions())
                self.assertEqual(network.waiting(), expected.waiting())
                self.assertEqual(network.schedule(), expected.schedule())

    def test_arguments_changed_after_the_call(self):
        channels, steps = {"x": "a"}, [("x", "A"), ("x", "B")]
        processes = {"q": steps, "p": [("x", "c")]}
        network = Network(channels, processes)
        self.assertEqual((channels, processes), ({"x": "a"}, {"q": [("x", "A"), ("x", "B")], "p": [("x", "c")]}))
        before = [network.positions(), network.schedule(), network.waiting()]
        channels["x"] = "ab"
        channels["y"] = ""
        steps.clear()
        processes["r"] = []
        del processes["p"]
        self.assertEqual([network.positions(), network.schedule(), network.waiting()], before)
        self.assertIs(network.check_positions({"p": 1, "q": 1}), True)
        self.assertIs(network.check_schedule(["q", "p"]), True)

    def test_returned_values_changed(self):
        network = Network({"x": "a"}, {"p": [("x", "A"), ("x", "B")], "q": [("x", "a")]})
        before = [network.positions(), network.schedule(), network.waiting()]
        network.positions()["p"] = 7
        network.positions().clear()
        network.schedule().append("r")
        network.waiting().clear()
        self.assertEqual([network.positions(), network.schedule(), network.waiting()], before)
        self.assertEqual(before, [{"p": 1, "q": 1}, before[1], {"p": ("x", "b")}])
        self.assertEqual(sorted(before[1]), ["p", "q"])

    def test_checks_change_nothing(self):
        network = Network({"x": "a"}, {"p": [("x", "A")], "q": [("x", "b")]})
        for k in range(2):
            self.assertIs(network.check_schedule(["p", "q"]), True)
            self.assertIs(network.check_schedule(["p", "p"]), False)
            self.assertIs(network.check_positions({"p": 1, "q": 1}), True)
            self.assertEqual(network.positions(), {"p": 1, "q": 1})


class Errors(NetworkCase):
    def test_arguments_that_are_no_dicts_of_names(self):
        others = [value for value in values_of_other_kinds() if value not in [{}, {"a": "b"}, {"a": ["b"]}]]
        for value in others + ["x", [("x", "")], [("p", [])]]:
            with self.subTest(value=value):
                self.assert_invalid(None, value, {})
                self.assert_invalid(None, {}, value)
                self.assert_invalid(None, value, value)
                self.assert_invalid(None, {"x": None}, value)
                self.assert_invalid(None, value, {"p": None})

    def test_wrong_names(self):
        wrong = ["", "abcdefghi", "A", "aB", "a b", " a", "a ", "a1", "1", "a_b", "a-b", "a\n", "{", "`", "a.b"]
        for name in wrong + [0, 1, True, None, (), ("a",), b"a", frozenset("a"), -1]:
            with self.subTest(name=name):
                self.assert_invalid(None, {name: ""}, {})
                self.assert_invalid(None, {"x": None, name: ""}, {})
                self.assert_invalid(None, {}, {name: []})
                self.assert_invalid(None, {"x": None}, {"p": None, name: []})

    def test_names_of_one_to_eight_letters(self):
        for name in ["a", "z", "abcdefgh", "zzzzzzzz", "none", "x", "ij"]:
            network = Network({name: "a"}, {name: [(name, "A")]})
            self.assertEqual(network.positions(), {name: 1})

    def test_8_and_9_names(self):
        nine = [letter * 2 for letter in "ihgfedcba"]
        eight = nine[:8]
        network = Network({name: "" for name in eight}, {name: [] for name in eight})
        self.assertEqual(network.positions(), {name: 0 for name in sorted(eight)})
        self.assert_invalid(None, {name: "" for name in nine}, {})
        self.assert_invalid(None, {}, {name: [] for name in nine})
        self.assert_invalid(None, {name: None for name in nine}, {})

    def test_wrong_words(self):
        for value in wrong_words():
            with self.subTest(value=value):
                self.assert_invalid("x", {"x": value}, {})
        for value in few_wrong_words():
            self.assert_invalid("y", {"z": value, "y": value, "x": ""}, {"a": None})
            self.assert_invalid("x", {"z": "", "x": value}, {"a": [("z", "A")], "b": [("z", "A")]})

    def test_words_of_400_items(self):
        self.assertIs(Network({"x": "a" * 400}, {"p": [("x", "A")] * 100}).can_finish(), True)
        self.assert_invalid("x", {"x": "a" * 401}, {})

    def test_values_that_are_no_lists_of_steps(self):
        fitting = ("x", "a")
        wrong_steps = [
            ("x",), ("x", "a", "a"), ("x", ""), ("x", "ab"), ("x", "i"), ("x", "I"), ("x", " "), ("x", None), ("x", 1),
            ("x", ["a"]), ("x", b"a"), ("y", "a"), ("", "a"), ("X", "a"), (None, "a"), (0, "a"), (["x"], "a"),
            ({}, "a"), (("x",), "a"), (True, "a"), ["x", "a"], "xa", "x", (), None, True, 0, {}, ("a", "x"),
            ("x", ("a",)), ({"x": ""}, "a"), (b"x", "a"), ("x", "a\n"),
        ]
        values = [[step] for step in wrong_steps] + [[fitting, step] for step in wrong_steps]
        values += [value for value in values_of_other_kinds() if value != []] + [(fitting,), fitting, {"x": "a"}, ""]
        for value in values:
            with self.subTest(value=value):
                self.assert_invalid("p", {"x": ""}, {"p": value})
                self.assert_invalid("p", {"x": ""}, {"q": value, "p": value, "a": [fitting]})
                self.assert_invalid("q", {"x": ""}, {"q": value, "p": [fitting], "a": [fitting]})
        self.assert_invalid("p", {}, {"p": [fitting]})

    def test_100_and_101_steps(self):
        for step in [("x", "a"), ("x", "A")]:
            self.assertEqual(len(Network({"x": "a" * 100}, {"p": [step] * 100}).schedule()), 100)
            self.assert_invalid("p", {"x": "a" * 100}, {"p": [step] * 101, "q": [step] * 101})

    def test_channels_that_several_processes_use(self):
        for step, other in [("a", "a"), ("a", "b"), ("A", "A"), ("A", "H")]:
            self.assert_invalid("x", {"x": ""}, {"p": [("x", step)], "q": [("x", other)]})
            self.assert_invalid("x", {"x": ""}, {"q": [("x", step)], "r": [], "p": [("x", other)]})
        for step, other in [("a", "A"), ("A", "b")]:
            Network({"x": ""}, {"p": [("x", step)], "q": [("x", other)]})
        Network({"x": ""}, {"p": [("x", "a"), ("x", "A"), ("x", "b"), ("x", "B")], "q": []})
        self.assert_invalid("x", {"x": ""}, {"p": [("x", "a"), ("x", "A")], "q": [("x", "A")]})
        self.assert_invalid("x", {"x": ""}, {"p": [("x", "a"), ("x", "A")], "q": [("x", "a")]})

    def test_the_first_of_several_channels(self):
        both = [("z", "a"), ("y", "A"), ("x", "b")]
        self.assert_invalid("x", {"z": "", "y": "", "x": ""}, {"p": both, "q": both})
        self.assert_invalid("y", {"y": "", "z": "", "x": ""}, {"p": both, "q": both[:2]})
        self.assert_invalid("z", {"y": "", "z": "", "x": ""}, {"p": both, "q": both[:1]})
        # A name is compared as a whole, not by its length.
        self.assert_invalid("ab", {"b": "", "ab": ""}, {"p": [("b", "a"), ("ab", "a")], "q": [("b", "a"), ("ab", "a")]})

    def test_which_of_several_errors(self):
        shared = {"p": [("x", "a")], "q": [("x", "a")]}
        self.assert_invalid(None, {"x": None, "Y": ""}, shared)
        self.assert_invalid(None, {"x": None}, {**shared, "R": []})
        self.assert_invalid("z", {"x": "", "z": None}, {**shared, "a": None})
        self.assert_invalid("r", {"x": ""}, {**shared, "r": None})
        self.assert_invalid("x", {"x": ""}, shared)
        self.assert_invalid("b", {"b": "A", "c": "A"}, {"a": None})


if __name__ == "__main__":
    unittest.main()

"""Networks: processes that communicate through leaky queues, the channels."""

from leakyqueue.errors import InvalidNetwork
from leakyqueue.integers import is_integer_within
from leakyqueue.names import is_name
from leakyqueue.programs import is_program, put_items, take_items
from leakyqueue.results import unlimited_result
from leakyqueue.words import embeds, is_word

MAX_NAMES = 8
MAX_PLAN_STEPS = 100


def require_names(value):
    """Raise InvalidNetwork if the value is not a dict with names as keys."""
    if not isinstance(value, dict) or len(value) > MAX_NAMES or not all([is_name(name) for name in value]):
        raise InvalidNetwork(None)


def is_step(value, channels):
    """Return whether the value is a step on one of the channels."""
    if not isinstance(value, tuple) or len(value) != 2:
        return False
    channel, step = value
    return is_name(channel) and channel in channels and is_program(step) and len(step) == 1


def is_plan(value, channels):
    """Return whether the value is a list of steps that a process can have."""
    if not isinstance(value, list) or len(value) > MAX_PLAN_STEPS:
        return False
    return all([is_step(step, channels) for step in value])


def is_shared(channel, processes):
    """Return whether several processes put to a channel, or several ones take from it."""
    used = ["".join([step for where, step in plan if where == channel]) for plan in processes.values()]
    putting = [steps for steps in used if put_items(steps) != ""]
    taking = [steps for steps in used if take_items(steps) != ""]
    return len(putting) > 1 or len(taking) > 1


def require_network(channels, processes):
    """Raise InvalidNetwork if the values do not form a network."""
    require_names(channels)
    require_names(processes)
    for name in sorted(channels):
        if not is_word(channels[name]):
            raise InvalidNetwork(name)
    for name in sorted(processes):
        if not is_plan(processes[name], channels):
            raise InvalidNetwork(name)
    for name in sorted(channels):
        if is_shared(name, processes):
            raise InvalidNetwork(name)


class Progress:
    """How far the processes have come, and what the channels hold if each item was taken as early as possible."""

    def __init__(self, channels, plans):
        self.held = {name: channels[name] for name in channels}
        self.plans = plans
        self.places = {name: 0 for name in plans}

    def advance(self, name):
        """Perform the next step of a process, if it can be performed, and return whether it was."""
        place = self.places[name]
        if place == len(self.plans[name]):
            return False
        channel, step = self.plans[name][place]
        result = unlimited_result(step, self.held[channel])
        if result is None:
            return False
        self.held[channel] = result
        self.places[name] += 1
        return True


class Network:
    """Processes with fixed sequences of steps on named leaky queues."""

    def __init__(self, channels, processes):
        require_network(channels, processes)
        self.channels = {name: channels[name] for name in sorted(channels)}
        self.plans = {name: list(processes[name]) for name in sorted(processes)}

    def positions(self):
        """Return the greatest number of steps that each process can perform."""
        names = self.schedule()
        return {name: names.count(name) for name in self.plans}

    def can_finish(self):
        """Return whether all processes can perform all steps."""
        return len(self.waiting()) == 0

    def schedule(self):
        """Return the names of processes whose next steps, in this order, lead to the greatest positions."""
        progress = Progress(self.channels, self.plans)
        names = []
        before = -1
        # A step that can be performed once can be performed later too: no other process takes from its channel.
        while before < len(names):
            before = len(names)
            for name in self.plans:
                while progress.advance(name):
                    names.append(name)
        return names

    def check_schedule(self, names):
        """Return whether the value is a list of processes whose next steps can be performed in this order."""
        if not isinstance(names, list):
            return False
        progress = Progress(self.channels, self.plans)
        for name in names:
            if not is_name(name) or name not in self.plans or not progress.advance(name):
                return False
        return True

    def waiting(self):
        """Return the channel and the item of the take that each process that cannot finish cannot perform."""
        positions = self.positions()
        waits = {}
        for name, plan in self.plans.items():
            if positions[name] < len(plan):
                channel, step = plan[positions[name]]
                waits[name] = (channel, step.lower())
        return waits

    def check_positions(self, positions):
        """Return whether the value is a dict of positions that show that no process can pass its own one."""
        if not isinstance(positions, dict) or len(positions) != len(self.plans):
            return False
        for name, plan in self.plans.items():
            if not is_integer_within(positions.get(name), 0, len(plan)):
                return False
        return all([self.is_stuck(name, positions) for name in self.plans])

    def is_stuck(self, name, positions):
        """Return whether a process has finished at its position, or waits for an item that is not there."""
        if positions[name] == len(self.plans[name]):
            return True
        channel, step = self.plans[name][positions[name]]
        used = self.steps_on(channel, positions)
        return step.isupper() and not embeds(take_items(used + step), self.channels[channel] + put_items(used))

    def steps_on(self, channel, positions):
        """Return the steps on a channel up to the positions, where only those of the same process are in order."""
        plans = [self.plans[name][:positions[name]] for name in self.plans]
        return "".join([step for plan in plans for where, step in plan if where == channel])

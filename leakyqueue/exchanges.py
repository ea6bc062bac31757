"""Exchanges: neighbouring steps, a put and a take, that change places without a change of the effect."""

from leakyqueue.effects import Effect
from leakyqueue.errors import InvalidExchange
from leakyqueue.integers import is_integer_within
from leakyqueue.programs import put_counts, require_program
from leakyqueue.separation import equivalent
from leakyqueue.words import embedding


def least_counts(effect):
    """Return, for each take, the least put count that it can have in a program with this effect."""
    further = embedding(effect.takes[effect.core:], effect.puts)
    return [0] * effect.core + [position + 1 for position in further]


def early_counts(effect):
    """Return, for each take, the greatest put count with which it comes too early for a smaller core.

    A program that has at least the least counts has this effect if and only if some take comes too early.
    """
    size = len(effect.takes)
    previous = effect.core - 1
    places = embedding(effect.takes[previous:], effect.puts) if previous >= 0 else None
    if places is None:
        # There is no smaller core, so nothing has to keep it away.
        return [len(effect.puts)] * size
    return [-1] * previous + places


def arranged(effect, counts):
    """Return the program with the takes and puts of an effect and these put counts."""
    parts = []
    done = 0
    for item, count in zip(effect.takes, counts):
        parts.append(effect.puts[done:count])
        parts.append(item.upper())
        done = count
    parts.append(effect.puts[done:])
    return "".join(parts)


class Arrangement:
    """The order of the steps of a program, while neighbouring steps are exchanged and the effect is kept."""

    def __init__(self, program):
        effect = Effect.of(program)
        self.counts = put_counts(program)
        self.least = least_counts(effect)
        self.early = early_counts(effect)
        self.early_takes = len([1 for count, early in zip(self.counts, self.early) if count <= early])
        # The number of the take at each index, and None at each put.
        self.numbers = [None] * len(program)
        for number, count in enumerate(self.counts):
            self.numbers[count + number] = number

    def allows(self, index):
        """Return whether the value is an index at which an exchange keeps the effect."""
        if not is_integer_within(index, 0, len(self.numbers) - 2):
            return False
        left = self.numbers[index]
        right = self.numbers[index + 1]
        if (left is None) == (right is None):
            return False
        if left is None:
            # A take that moves to the front can only come before the put that serves it.
            return self.counts[right] > self.least[right]
        # A take that moves to the back can only be the last one that is too early for a smaller core.
        return self.early_takes > 1 or self.counts[left] != self.early[left]

    def exchange(self, index):
        """Exchange the step at this index, which must be allowed, and the next one."""
        left = self.numbers[index]
        right = self.numbers[index + 1]
        number = right if left is None else left
        was_early = self.counts[number] <= self.early[number]
        self.counts[number] += -1 if left is None else 1
        is_early = self.counts[number] <= self.early[number]
        self.early_takes += int(is_early) - int(was_early)
        self.numbers[index] = right
        self.numbers[index + 1] = left


def normal_program(program):
    """Return the normal program of the effect of a program."""
    effect = Effect.of(program)
    return arranged(effect, least_counts(effect))


def exchanges(program):
    """Return the ascending indexes at which an exchange keeps the effect."""
    arrangement = Arrangement(program)
    return [index for index in range(len(program)) if arrangement.allows(index)]


def exchanged(program, index):
    """Return the program after the exchange at this index."""
    if not Arrangement(program).allows(index):
        raise InvalidExchange(index)
    return program[:index] + program[index + 1] + program[index] + program[index + 2:]


def distance(first, second):
    """Return the fewest exchanges from the first program to the second one, or None."""
    if not equivalent(first, second):
        return None
    return sum([abs(count - other) for count, other in zip(put_counts(first), put_counts(second))])


def exchange_path(first, second):
    """Return a list of the fewest indexes that leads from the first program to the second one, or None."""
    if not equivalent(first, second):
        return None
    goals = put_counts(second)
    path = []
    middle = []
    # First all takes move to the front, as far as they must: these programs keep what was too early in the first one.
    for number, count in enumerate(put_counts(first)):
        middle.append(min(count, goals[number]))
        path.extend([place + number - 1 for place in range(count, middle[number], -1)])
    # Then they move to the back, the last one first: these programs keep what is too early in the second one.
    for number in range(len(middle) - 1, -1, -1):
        path.extend([place + number for place in range(middle[number], goals[number])])
    return path


def check_path(first, second, path):
    """Return whether the last argument is a list of indexes that leads from the first program to the second one."""
    require_program(first)
    require_program(second)
    if not isinstance(path, list) or not equivalent(first, second):
        return False
    arrangement = Arrangement(first)
    for index in path:
        if not arrangement.allows(index):
            return False
        arrangement.exchange(index)
    return arrangement.counts == put_counts(second)

"""Observations: which of several programs is at work, and which queue tells most about it."""

from leakyqueue.cores import effect_result, program_values
from leakyqueue.errors import InvalidObservations, InvalidPrograms
from leakyqueue.integers import require_number
from leakyqueue.programs import is_program
from leakyqueue.results import unlimited_result
from leakyqueue.words import ITEMS, is_word

MAX_PROGRAMS = 20
MAX_PROBE_LENGTH = 3


def require_programs(value):
    """Raise InvalidPrograms if the value is not a list of programs."""
    if not isinstance(value, list) or not 1 <= len(value) <= MAX_PROGRAMS:
        raise InvalidPrograms(None)
    for index, program in enumerate(value):
        if not is_program(program):
            raise InvalidPrograms(index)


def is_observation(value):
    """Return whether the value is a queue with its best result."""
    if not isinstance(value, tuple) or len(value) != 2:
        return False
    queue, result = value
    return is_word(queue) and (result is None or is_word(result))


def require_observations(value):
    """Raise InvalidObservations if the value is not a list of observations."""
    if not isinstance(value, list):
        raise InvalidObservations(None)
    for index, observation in enumerate(value):
        if not is_observation(observation):
            raise InvalidObservations(index)


def consistent(programs, observations):
    """Return the indexes of the programs that have the observed best results."""
    require_programs(programs)
    require_observations(observations)
    return [index for index, program in enumerate(programs) if fits(program, observations)]


def fits(program, observations):
    """Return whether a program has the observed best results."""
    return all([unlimited_result(program, queue) == result for queue, result in observations])


def words_up_to(length):
    """Return all words of at most this length, in order."""
    words = [""]
    layer = [""]
    for size in range(length):
        layer = [word + item for word in layer for item in ITEMS]
        words.extend(layer)
    return words


def largest_group(effects, queue):
    """Return the size of the largest group of effects, given by their values, with the same best result."""
    results = [effect_result(*values, queue) for values in effects]
    return max([results.count(result) for result in results])


def best_probe(programs, length):
    """Return the first queue of at most this length for which the largest group of programs is smallest."""
    require_programs(programs)
    require_number(length, 0, MAX_PROBE_LENGTH)
    effects = [program_values(program) for program in programs]
    # Of several smallest ones, this is the first one.
    return min(words_up_to(length), key=lambda queue: largest_group(effects, queue))

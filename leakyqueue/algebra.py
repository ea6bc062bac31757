"""Algebra: commuting programs, roots of effects, and queues that a program leaves unchanged."""

from leakyqueue.cores import is_fitting_core, program_values
from leakyqueue.effects import Effect
from leakyqueue.errors import InvalidProgram
from leakyqueue.integers import require_number
from leakyqueue.programs import put_items, require_program
from leakyqueue.repetition import repeated_core
from leakyqueue.results import unlimited_result

MAX_ROOT_EXPONENT = 400
MAX_UNCHANGED_LENGTH = 40


def commute(first, second):
    """Return whether both programs, joined in either order, are equivalent."""
    require_program(first)
    require_program(second)
    return program_values(first + second) == program_values(second + first)


def root_of_word(word, exponent):
    """Return the word that yields this one when it is repeated so many times, or None."""
    part = word[:len(word) // exponent]
    return part if part * exponent == word else None


def roots(program, exponent):
    """Return the effects, with ascending cores, that yield the effect of the program when they are repeated."""
    require_program(program)
    require_number(exponent, 1, MAX_ROOT_EXPONENT)
    effect = Effect.of(program)
    taken = root_of_word(effect.takes, exponent)
    given = root_of_word(effect.puts, exponent)
    if taken is None or given is None:
        return []
    cores = [core for core in range(len(taken) + 1) if is_fitting_core(taken, given, core)]
    return [
        Effect(taken, given, core) for core in cores if repeated_core(taken, given, core, exponent) == effect.core
    ]


def unchanged_queues(program, length):
    """Return all queues of at most this length, in the order of words, that are their own best result."""
    require_program(program)
    if program == "":
        raise InvalidProgram(program)
    require_number(length, 0, MAX_UNCHANGED_LENGTH)
    # A best result is an end of the puts, or an end of the queue followed by the puts. If it is the queue itself,
    # it is an end of the repeated puts in both cases. So there is one candidate of each length.
    endless = put_items(program) * length
    candidates = [endless[len(endless) - size:] for size in range(min(length, len(endless)) + 1)]
    return [queue for queue in candidates if unlimited_result(program, queue) == queue]

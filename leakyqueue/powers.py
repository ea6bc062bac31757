"""Repetition: programs of at most 60 steps that are performed very often."""

from leakyqueue.cores import program_values
from leakyqueue.effects import Effect
from leakyqueue.errors import LimitExceeded
from leakyqueue.integers import require_number, require_number_from
from leakyqueue.programs import put_items, require_program
from leakyqueue.repetition import core_growth, repeated_core, repeated_prefix, repeated_result
from leakyqueue.words import require_word

MAX_STEPS = 60
MAX_EXPONENT = 10 ** 30


def require_short_program(program):
    """Raise InvalidProgram or LimitExceeded if the value is not a program that can be repeated."""
    require_program(program)
    if len(program) > MAX_STEPS:
        raise LimitExceeded(MAX_STEPS)


def require_exponent(exponent):
    """Raise InvalidNumber if the value is not an exponent."""
    require_number(exponent, 0, MAX_EXPONENT)


def power_effect(program, exponent):
    """Return the effect of the repeated program."""
    require_short_program(program)
    require_exponent(exponent)
    if len(program) * exponent > Effect.MAX_ITEMS:
        raise LimitExceeded(Effect.MAX_ITEMS)
    # The empty program passes with any exponent, and a string cannot be repeated that often.
    return Effect.of(program * min(exponent, Effect.MAX_ITEMS))


def power_core(program, exponent):
    """Return the core of the repeated program."""
    require_short_program(program)
    require_exponent(exponent)
    taken, given, core = program_values(program)
    return repeated_core(taken, given, core, exponent)


def power_result(program, queue, exponent):
    """Return the old items that remain after the repeated program and the number of puts that do not, or None."""
    taken, given, core = program_values(program)
    return repeated_result(taken, given, core, queue, exponent)


def power_length(program, queue, exponent):
    """Return the number of items of the best result of the repeated program, or None."""
    require_short_program(program)
    require_word(queue)
    require_exponent(exponent)
    result = power_result(program, queue, exponent)
    if result is None:
        return None
    rest, gone = result
    return len(rest) + len(put_items(program)) * exponent - gone


def power_item(program, queue, exponent, position):
    """Return the item at this position of the best result of the repeated program, or None."""
    length = power_length(program, queue, exponent)
    require_number_from(position, 0)
    if length is None or position >= length:
        return None
    rest, gone = power_result(program, queue, exponent)
    if position < len(rest):
        return rest[position]
    given = put_items(program)
    return given[(position - len(rest) + gone) % len(given)]


def most_repetitions(program, queue):
    """Return the greatest exponent for which the repeated program succeeds on the queue, or None."""
    require_short_program(program)
    require_word(queue)
    taken, given, core = program_values(program)
    served = len(repeated_prefix(taken, queue, len(queue)))
    exponent = 0
    while core <= served:
        exponent += 1
        growth = core_growth(taken, given, core)
        if growth == 0:
            return None
        core += growth
    return exponent

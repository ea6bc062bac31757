"""Programs: strings of steps, each of which puts or takes an item."""

from leakyqueue.errors import InvalidProgram, LimitExceeded
from leakyqueue.words import MAX_LENGTH, is_string_of

STEPS = "abcdefghABCDEFGH"


def is_program(value):
    """Return whether the value is a program."""
    return is_string_of(value, STEPS)


def require_program(value):
    """Raise InvalidProgram if the value is not a program."""
    if not is_program(value):
        raise InvalidProgram(value)


def take_items(program):
    """Return the word of the taken items of a program of any length."""
    return "".join([step.lower() for step in program if step.isupper()])


def put_items(program):
    """Return the word of the put items of a program of any length."""
    return "".join([step for step in program if step.islower()])


def counts_before_takes(program):
    """Return a list with the number of puts before each take of a program of any length."""
    counts = []
    done = 0
    for step in program:
        if step.islower():
            done += 1
        else:
            counts.append(done)
    return counts


def takes(program):
    """Return the word of the taken items, in order."""
    require_program(program)
    return take_items(program)


def puts(program):
    """Return the word of the put items, in order."""
    require_program(program)
    return put_items(program)


def put_counts(program):
    """Return a list with the number of puts before each take."""
    require_program(program)
    return counts_before_takes(program)


def steps(program):
    """Yield a tuple of the word put or take and the item for each step."""
    require_program(program)
    for step in program:
        word = "put" if step.islower() else "take"
        yield (word, step.lower())


def join(*programs):
    """Return the programs, one after the other."""
    for program in programs:
        require_program(program)
    joined = "".join(programs)
    if len(joined) > MAX_LENGTH:
        raise LimitExceeded(MAX_LENGTH)
    return joined

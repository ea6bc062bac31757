"""Cores: the least number of takes that old items must serve, for takes, puts and programs of any length."""

from leakyqueue.integers import is_integer_within
from leakyqueue.programs import counts_before_takes, put_items, take_items
from leakyqueue.words import earliest_positions, embeds, end_of


def is_fitting_core(taken, given, core):
    """Return whether the core is a number of takes, and the puts can serve the takes after it."""
    return is_integer_within(core, 0, len(taken)) and embeds(taken[core:], given)


def program_core(program):
    """Return the core of a program."""
    taken = take_items(program)
    given = put_items(program)
    counts = counts_before_takes(program)
    core = len(taken)
    place = len(given)
    # From the last take on, each take gets the latest put before it that no later take needs.
    while core > 0:
        place = given.rfind(taken[core - 1], 0, min(place, counts[core - 1]))
        if place < 0:
            break
        core -= 1
    return core


def program_values(program):
    """Return the takes, the puts and the core of a program."""
    return take_items(program), put_items(program), program_core(program)


def count_unserved(taken, given):
    """Return the length of the shortest prefix of the takes whose removal leaves a subsequence of the puts."""
    unserved = len(taken)
    place = len(given)
    while unserved > 0:
        place = given.rfind(taken[unserved - 1], 0, place)
        if place < 0:
            break
        unserved -= 1
    return unserved


def joined_core(taken, given, core, later_taken, later_core):
    """Return the core of an effect with these takes, puts and core that is followed by another effect."""
    # All takes up to the core of the later effect are served by old items or by the puts of the earlier one.
    return max(core, count_unserved(taken + later_taken[:later_core], given))


def effect_result(taken, given, core, queue):
    """Return the best result, of any length, of an effect on a queue, or None."""
    positions = earliest_positions(taken, queue)
    served = len(positions)
    if served < core:
        return None
    if served == len(taken):
        return queue[end_of(positions):] + given
    # A take that no old item serves loses all old items, so only puts can remain.
    return result_of_puts(taken, given, served)


def result_of_puts(taken, given, served):
    """Return what remains of the puts if they serve all takes after the first ones."""
    return given[end_of(earliest_positions(taken[served:], given)):]

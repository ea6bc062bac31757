"""Takes, puts and a core that are repeated very often, without being written out."""

from leakyqueue.words import earliest_positions, end_of


def walk(start, count, size, advance):
    """Return where so many moves lead from a place.

    Each move goes forward by what the function says for the remainder of the place by the size.
    """
    places = [start]
    visits = {start % size: 0}
    while len(places) <= count:
        place = places[-1] + advance(places[-1] % size)
        before = visits.get(place % size)
        if before is not None:
            # From an equal remainder on, the same moves follow again.
            rounds, left = divmod(count - before, len(places) - before)
            return places[before + left] + rounds * (place - places[before])
        visits[place % size] = len(places)
        places.append(place)
    return places[count]


def core_growth(taken, given, place):
    """Return by how much one more repetition, in front of the others, makes a core grow that ends at this take.

    The takes up to the core and those of the new repetition are served by the new puts, from the last one on.
    """
    served = 0
    before = len(given)
    while served < len(taken):
        before = given.rfind(taken[(place - served - 1) % len(taken)], 0, before)
        if before < 0:
            break
        served += 1
    return len(taken) - served


def repeated_core(taken, given, core, exponent):
    """Return the core of an effect that is performed so many times."""
    if exponent == 0 or taken == "":
        return 0
    return walk(core, exponent - 1, len(taken), lambda place: core_growth(taken, given, place))


def repeated_prefix(taken, queue, exponent):
    """Return the earliest positions in the queue of the longest prefix of the repeated takes."""
    # Each take needs an item of its own, so more repetitions do not matter.
    return earliest_positions(taken * min(exponent, len(queue)), queue)


def skip_puts(taken, given, place):
    """Return how many of the endlessly repeated puts, from this place on, serve these takes."""
    twice = given + given
    done = 0
    for item in taken:
        first = (place + done) % len(given)
        done += twice.find(item, first) + 1 - first
    return done


def skipped_puts(taken, given, served, exponent):
    """Return how many of the repeated puts are gone if they serve all repeated takes after the first ones.

    The puts must be able to serve them, and there must be such takes.
    """
    complete, begun = divmod(served, len(taken))
    start = skip_puts(taken[begun:], given, 0)
    return walk(start, exponent - complete - 1, len(given), lambda place: skip_puts(taken, given, place))


def repeated_result(taken, given, core, queue, exponent):
    """Return the best result of the repeated effect, or None.

    It is a tuple of the old items that remain, and the number of the repeated puts that do not.
    """
    positions = repeated_prefix(taken, queue, exponent)
    served = len(positions)
    if served < repeated_core(taken, given, core, exponent):
        return None
    if served == len(taken) * exponent:
        return queue[end_of(positions):], 0
    return "", skipped_puts(taken, given, served, exponent)

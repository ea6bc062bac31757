"""Plain performances of programs, against which the package is compared."""

import itertools


def subsequences(word):
    """The set of all words that remain after some items are lost."""
    return {
        "".join(chosen)
        for length in range(len(word) + 1)
        for chosen in itertools.combinations(word, length)
    }


def with_losses(words):
    """The set of what these words can become by losses."""
    return set().union(*[subsequences(word) for word in words])


def step_on(words, step):
    """The set of what these words become by a step, without those on which it cannot be performed."""
    if step in "abcdefgh":
        return {word + step for word in words}
    return {word[1:] for word in words if word[:1].upper() == step}


def all_results(program, queue):
    """The set of all words with which the program can end: every loss before every step is tried."""
    words = with_losses([queue])
    for step in program:
        words = with_losses(step_on(words, step))
    return words


def greatest(results):
    """The longest one of a set of results, or None."""
    return max(results, key=len, default=None)


def plain_result(program, queue):
    """The best result, of any length, item by item, or None."""
    items = list(queue)
    for step in program:
        if step in "abcdefgh":
            items.append(step)
            continue
        while items and items[0].upper() != step:
            del items[0]
        if not items:
            return None
        del items[0]
    return "".join(items)


def plain_core(program):
    """The length of the shortest prefix of the takes on which the program succeeds."""
    taken = "".join([step.lower() for step in program if step in "ABCDEFGH"])
    return min([length for length in range(len(taken) + 1) if plain_result(program, taken[:length]) is not None])


def core_by_halving(program):
    """The core of a long program."""
    taken = "".join([step.lower() for step in program if step in "ABCDEFGH"])
    low, high = 0, len(taken)
    while low < high:
        middle = (low + high) // 2
        if plain_result(program, taken[:middle]) is None:
            low = middle + 1
        else:
            high = middle
    return low


def plain_values(program):
    """The takes, the puts and the core of a program."""
    taken = "".join([step.lower() for step in program if step in "ABCDEFGH"])
    given = "".join([step for step in program if step in "abcdefgh"])
    return taken, given, plain_core(program)


def merges(taken, given):
    """All programs with these takes and puts."""
    size = len(taken) + len(given)
    for places in itertools.combinations(range(size), len(taken)):
        takes, puts = iter(taken.upper()), iter(given)
        yield "".join([next(takes) if place in places else next(puts) for place in range(size)])


def counts_of(program):
    """The number of puts before each take."""
    puts = [step.islower() for step in program]
    return [sum(puts[:index]) for index in range(len(program)) if not puts[index]]

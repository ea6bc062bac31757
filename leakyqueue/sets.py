"""Sets of queues: lists of patterns, their inclusion, and what programs make of them."""

from leakyqueue.errors import InvalidSet, InvalidWord, LimitExceeded
from leakyqueue.patterns import MAX_ATOMS, after_program, covers, denotes, full_word, is_pattern, normal_pattern
from leakyqueue.programs import require_program
from leakyqueue.words import ITEMS, is_string_of

MAX_PATTERNS = 20
MAX_CONTAINED = 4000


def require_set(value):
    """Raise InvalidSet if the value is not a set."""
    if not isinstance(value, list) or len(value) > MAX_PATTERNS:
        raise InvalidSet(None)
    for index, pattern in enumerate(value):
        if not is_pattern(pattern):
            raise InvalidSet(index)


def contains(queues, word):
    """Return whether the set contains the word, which may be longer than words are otherwise."""
    require_set(queues)
    if not is_string_of(word, ITEMS, MAX_CONTAINED):
        raise InvalidWord(word)
    return any([denotes(pattern, word) for pattern in queues])


def is_covered(pattern, queues):
    """Return whether the set contains all words of the pattern."""
    # Any words of a pattern are subsequences of one of its words, so they are never spread over several patterns.
    return any([covers(other, pattern) for other in queues])


def includes(first, second):
    """Return whether the first set contains all words of the second one."""
    return missing_word(first, second) is None


def missing_word(first, second):
    """Return a word that the second set contains and the first one does not, or None."""
    require_set(first)
    require_set(second)
    rounds = max([len(pattern) for pattern in first], default=0) + 1
    for pattern in second:
        if not is_covered(pattern, first):
            return full_word(pattern, rounds)
    return None


def is_needed(patterns, index):
    """Return whether a set of normal patterns needs the one at this index."""
    pattern = patterns[index]
    # Normal patterns with the same words are equal.
    if pattern in patterns[:index]:
        return False
    return not any([other != pattern and covers(other, pattern) for other in patterns])


def normal_patterns(patterns):
    """Return normal patterns for the same words, where no one covers another one."""
    normal = [normal_pattern(pattern) for pattern in patterns]
    return [pattern for index, pattern in enumerate(normal) if is_needed(normal, index)]


def normal_set(queues):
    """Return the same set with normal patterns, without those that another one covers."""
    require_set(queues)
    return normal_patterns(queues)


def results_of_patterns(queues, program):
    """Return the patterns of the possible results on each pattern, without those on which the program always fails."""
    results = [after_program(pattern, program) for pattern in queues]
    return [result for result in results if result is not None]


def image(queues, program):
    """Return the set of the possible results of the program on all queues of the set."""
    require_set(queues)
    require_program(program)
    results = normal_patterns(results_of_patterns(queues, program))
    if max([len(result) for result in results], default=0) > MAX_ATOMS:
        raise LimitExceeded(MAX_ATOMS)
    return results


def is_invariant(queues, *programs):
    """Return whether the set includes its image under each of the programs."""
    require_set(queues)
    for program in programs:
        require_program(program)
    results = [result for program in programs for result in results_of_patterns(queues, program)]
    return all([is_covered(result, queues) for result in results])

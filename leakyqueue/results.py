"""Results: what a program can end with on a queue that may lose items before each step and at the end."""

from leakyqueue.errors import LimitExceeded
from leakyqueue.integers import is_integer_within
from leakyqueue.programs import require_program
from leakyqueue.words import MAX_LENGTH, earliest_positions, embeds, require_word, without


def perform_best(program, queue):
    """Return the best result, of any length, and a list with the number of items lost just before each step.

    The result is None if a step cannot be performed.
    """
    word = queue
    counts = []
    for step in program:
        lost = 0
        if step.islower():
            word += step
        else:
            lost = word.find(step.lower())
            if lost < 0:
                return None, counts
            word = word[lost + 1:]
        counts.append(lost)
    return word, counts


def unlimited_result(program, queue):
    """Return the best result, of any length, or None."""
    result, counts = perform_best(program, queue)
    return result


def within_limit(result):
    """Return a result, which may be None, or raise LimitExceeded if it is too long for a word."""
    if result is not None and len(result) > MAX_LENGTH:
        raise LimitExceeded(MAX_LENGTH)
    return result


def best_result(program, queue):
    """Return the word that a leaky queue with this word has after the program, or None."""
    require_program(program)
    require_word(queue)
    return within_limit(unlimited_result(program, queue))


def is_possible(program, queue, result):
    """Return whether the program can end with the result."""
    require_program(program)
    require_word(queue)
    require_word(result)
    best = unlimited_result(program, queue)
    return best is not None and embeds(result, best)


def find_losses(program, queue, result):
    """Return a list of the lists of positions that are lost before each step and at the end, or None."""
    if not is_possible(program, queue, result):
        return None
    best, counts = perform_best(program, queue)
    kept = set(earliest_positions(result, best))
    losses = [list(range(count)) for count in counts]
    losses.append([position for position in range(len(best)) if position not in kept])
    return losses


def are_positions(value, word):
    """Return whether the value is a list of ascending positions of the word."""
    if not isinstance(value, list):
        return False
    least = 0
    for position in value:
        if not is_integer_within(position, least, len(word) - 1):
            return False
        least = position + 1
    return True


def word_after_step(step, word):
    """Return the word after a step without losses, or None if a take does not find its item at the front."""
    if not step.isupper():
        return word + step
    return word[1:] if word.startswith(step.lower()) else None


def word_after_losses(program, queue, losses):
    """Return the word after the program with these losses, or None if they cannot occur or a take fails."""
    word = queue
    # The empty step stands for the end of the program, where items may be lost too.
    for step, lost in zip(list(program) + [""], losses):
        if not are_positions(lost, word):
            return None
        word = word_after_step(step, without(word, lost))
        if word is None:
            return None
    return word


def check_losses(program, queue, result, losses):
    """Return whether the program ends with the result if the items at these positions are lost."""
    require_program(program)
    require_word(queue)
    require_word(result)
    if not isinstance(losses, list) or len(losses) != len(program) + 1:
        return False
    return word_after_losses(program, queue, losses) == result

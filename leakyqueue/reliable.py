"""The queue without losses, compared with the one that loses items."""

from leakyqueue.effects import Effect
from leakyqueue.programs import require_program
from leakyqueue.results import within_limit, word_after_step
from leakyqueue.words import ITEMS, require_word


def unlimited_reliable_result(program, queue):
    """Return the word, of any length, after the program without losses, or None."""
    word = queue
    for step in program:
        word = word_after_step(step, word)
        if word is None:
            return None
    return word


def reliable_result(program, queue):
    """Return the word that a queue without losses has after the program, or None."""
    require_program(program)
    require_word(queue)
    return within_limit(unlimited_reliable_result(program, queue))


def with_one_item(word):
    """Return, in order, all words that one more item anywhere makes of a word."""
    return sorted({word[:at] + item + word[at:] for at in range(len(word) + 1) for item in ITEMS})


def first_difference(program):
    """Return the first queue on which losses help, or None if the program takes nothing."""
    effect = Effect.of(program)
    if effect.takes == "":
        return None
    # Where the queue without losses has a result, it is the best one too. So the results differ where the program
    # succeeds with losses, for which the queue must contain the least one, and fails without them. One more item is
    # enough: another item than the first take, at the front, makes the program fail without losses.
    for queue in [effect.least_queue] + with_one_item(effect.least_queue):
        if unlimited_reliable_result(program, queue) is None:
            return queue

"""Separation: whether programs act alike on all queues, and the first queue on which they do not."""

from leakyqueue.cores import result_of_puts
from leakyqueue.effects import Effect
from leakyqueue.programs import require_program
from leakyqueue.results import unlimited_result
from leakyqueue.words import is_word


def equivalent(first, second):
    """Return whether both programs have the same best result, or fail, on every queue."""
    return Effect.of(first) == Effect.of(second)


def check_separation(first, second, queue):
    """Return whether the last argument is a word on which the best results differ."""
    require_program(first)
    require_program(second)
    return is_word(queue) and unlimited_result(first, queue) != unlimited_result(second, queue)


def separating_queue(first, second):
    """Return the first word on which the best results differ, or None."""
    one = Effect.of(first)
    other = Effect.of(second)
    if one == other:
        return None
    if one.least_queue != other.least_queue:
        # On every other word up to this one, both programs fail.
        return min([one.least_queue, other.least_queue], key=word_order)
    return one.least_queue + separating_end(FurtherTakes(one), FurtherTakes(other))


def word_order(word):
    """Return what orders words: first the length, then the alphabet."""
    return (len(word), word)


class FurtherTakes:
    """The takes after the core of an effect, and its results while a queue behind the least one is read."""

    def __init__(self, effect):
        self.wanted = effect.takes[effect.core:]
        last = len(self.wanted)
        self.remains = [result_of_puts(self.wanted, effect.puts, served) for served in range(last + 1)]

    def is_complete(self, served):
        """Return whether so many further takes are all of them."""
        return served == len(self.wanted)

    def serve(self, served, item):
        """Return the number of further takes that are served after one more item."""
        if not self.is_complete(served) and self.wanted[served] == item:
            return served + 1
        return served

    def result(self, served, item):
        """Return the best result after one more item, if no item remains before it."""
        if self.is_complete(served):
            return item + self.remains[served]
        return self.remains[self.serve(served, item)]


def useful_items(one, served, other, other_served):
    """Return, in order, the items that can be the next one of a first separating word."""
    if one.is_complete(served) or other.is_complete(other_served):
        # The complete effect keeps the next item. The other one serves no take with at least one of two items,
        # and its result stays the same while that of the complete one becomes longer. If both became complete
        # together, they agree on all longer words, and no item is of use.
        return ["a", "b"]
    return sorted({one.wanted[served], other.wanted[other_served]})


def separating_end(one, other):
    """Return the first word that separates two unlike effects behind the least queue, which they share."""
    if one.remains[0] != other.remains[0]:
        return ""
    seen = set()
    layer = [(0, 0, "")]
    while layer:
        longer = []
        # The words of a layer have the same length and are in order, so the first difference is the answer.
        for served, other_served, word in layer:
            for item in useful_items(one, served, other, other_served):
                if one.result(served, item) != other.result(other_served, item):
                    return word + item
                after = (one.serve(served, item), other.serve(other_served, item))
                if after not in seen:
                    seen.add(after)
                    longer.append((*after, word + item))
        layer = longer

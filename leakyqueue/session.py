"""Sessions: a leaky queue whose steps can be cancelled and performed again."""

from leakyqueue.effects import Effect
from leakyqueue.errors import LimitExceeded, NothingToUndo
from leakyqueue.integers import require_number_from
from leakyqueue.programs import put_items, take_items
from leakyqueue.queues import LeakyQueue
from leakyqueue.results import unlimited_result
from leakyqueue.words import MAX_LENGTH, require_word


def require_count(count, available):
    """Raise InvalidNumber or NothingToUndo if there are not so many steps available."""
    require_number_from(count, 1)
    if count > available:
        raise NothingToUndo(count)


class Session:
    """A leaky queue with the steps that it has performed, and those that were cancelled last."""

    def __init__(self, word=""):
        require_word(word)
        self.initial = word
        self.move("", "")

    def move(self, done, cancelled):
        """Make these the current steps and those that can be performed again."""
        self.done = done
        self.cancelled = cancelled
        self.present = unlimited_result(done, self.initial)
        # The effect is kept ready, so that the property only reads it.
        self.reached = Effect.of(done)

    @property
    def word(self):
        """The present items, from the front to the back."""
        return self.present

    @property
    def program(self):
        """The current steps."""
        return self.done

    @property
    def effect(self):
        """The effect of the current steps."""
        return self.reached

    def run(self, program):
        """Perform all steps of a program, or none, and return the number of lost items."""
        queue = LeakyQueue(self.present)
        queue.run(program)
        if len(self.done) + len(program) > MAX_LENGTH:
            raise LimitExceeded(MAX_LENGTH)
        # What was there or was put, and was not taken, would be there now without losses.
        lost = len(self.present) + len(put_items(program)) - len(take_items(program)) - len(queue)
        self.move(self.done + program, "" if program else self.cancelled)
        return lost

    def undo(self, count=1):
        """Cancel the latest current steps, and return them."""
        require_count(count, len(self.done))
        rest = len(self.done) - count
        steps = self.done[rest:]
        self.move(self.done[:rest], steps + self.cancelled)
        return steps

    def redo(self, count=1):
        """Perform again the steps that were cancelled last, and return them."""
        require_count(count, len(self.cancelled))
        steps = self.cancelled[:count]
        self.move(self.done + steps, self.cancelled[count:])
        return steps

    def clone(self):
        """Return an independent session with the same steps."""
        twin = Session(self.initial)
        twin.move(self.done, self.cancelled)
        return twin

    def __eq__(self, other):
        return isinstance(other, Session) and self.present == other.present and self.done == other.done

    def __len__(self):
        return len(self.done)

    def __repr__(self):
        return f"Session({self.initial!r}, {self.done!r})"

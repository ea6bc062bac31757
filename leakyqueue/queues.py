"""Queues: one that loses nothing, and one that can lose items."""

from leakyqueue.errors import Failed, InvalidPosition, InvalidWord, LimitExceeded, Missing
from leakyqueue.integers import is_integer_within
from leakyqueue.programs import require_program
from leakyqueue.words import MAX_LENGTH, is_word, require_word, without


def require_item(value):
    """Raise InvalidWord if the value is not a word of one item."""
    if not is_word(value) or len(value) != 1:
        raise InvalidWord(value)


class Queue:
    """A queue that loses nothing. Its front is the first item of the word."""

    def __init__(self, word=""):
        require_word(word)
        self.content = word

    @property
    def word(self):
        """The items, from the front to the back."""
        return self.content

    def refill(self, word):
        """Replace the items by those of a word."""
        require_word(word)
        self.content = word

    def put(self, item):
        """Add an item at the back."""
        require_item(item)
        if len(self.content) >= MAX_LENGTH:
            raise LimitExceeded(MAX_LENGTH)
        self.content += item

    def take(self, item):
        """Remove the item from the front and return 0, the number of lost items."""
        require_item(item)
        if not self.content.startswith(item):
            raise Missing(item)
        self.content = self.content[1:]
        return 0

    def perform(self, step):
        """Perform one step of a program."""
        if step.islower():
            self.put(step)
        else:
            self.take(step.lower())

    def run(self, program):
        """Perform all steps of a program, or none."""
        require_program(program)
        # The steps are tried on a clone, so that a step that fails leaves this queue as it was.
        trial = self.clone()
        for index, step in enumerate(program):
            try:
                trial.perform(step)
            except (Missing, LimitExceeded):
                raise Failed(index) from None
        self.content = trial.content

    def clone(self):
        """Return an independent queue with the same word."""
        return Queue(self.content)

    def __eq__(self, other):
        return isinstance(other, Queue) and not isinstance(other, LeakyQueue) and self.content == other.content

    def __len__(self):
        return len(self.content)

    def __repr__(self):
        return f"Queue({self.content!r})"


class LeakyQueue(Queue):
    """A queue that can lose items."""

    def __init__(self, word=""):
        super().__init__(word)

    @property
    def word(self):
        """The items, from the front to the back."""
        return self.content

    def refill(self, word):
        """Replace the items by those of a word."""
        super().refill(word)

    def put(self, item):
        """Add an item at the back."""
        super().put(item)

    def take(self, item):
        """Remove the first such item and all items in front of it, and return the number of the latter."""
        require_item(item)
        lost = self.content.find(item)
        if lost < 0:
            raise Missing(item)
        self.content = self.content[lost + 1:]
        return lost

    def lose(self, *positions):
        """Remove the items at these positions."""
        lost = set()
        for position in positions:
            if not is_integer_within(position, 0, len(self.content) - 1) or position in lost:
                raise InvalidPosition(position)
            lost.add(position)
        self.content = without(self.content, positions)

    def run(self, program):
        """Perform all steps of a program, or none."""
        super().run(program)

    def clone(self):
        """Return an independent leaky queue with the same word."""
        return LeakyQueue(self.content)

    def __eq__(self, other):
        return isinstance(other, LeakyQueue) and self.content == other.content

    def __len__(self):
        return len(self.content)

    def __repr__(self):
        return f"LeakyQueue({self.content!r})"

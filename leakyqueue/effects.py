"""Effects: what programs do to every queue, as three values."""

from leakyqueue.cores import effect_result, is_fitting_core, joined_core, program_values
from leakyqueue.errors import InvalidCore, InvalidEffect, LimitExceeded
from leakyqueue.programs import require_program
from leakyqueue.results import within_limit
from leakyqueue.words import require_word


class Effect:
    """The takes, the puts and the core of programs that act alike on all queues."""

    MAX_ITEMS = 400

    def __init__(self, takes, puts, core):
        if not Effect.is_core(takes, puts, core):
            raise InvalidCore(core)
        if len(takes) + len(puts) > Effect.MAX_ITEMS:
            raise LimitExceeded(Effect.MAX_ITEMS)
        self.taken = takes
        self.given = puts
        self.needed = core

    @property
    def takes(self):
        """The taken items, in order."""
        return self.taken

    @property
    def puts(self):
        """The put items, in order."""
        return self.given

    @property
    def core(self):
        """The least number of takes that old items must serve."""
        return self.needed

    @property
    def least_queue(self):
        """The word that a queue must contain, as a subsequence, for the effect to succeed."""
        return self.taken[:self.needed]

    @classmethod
    def of(cls, program):
        """Return the effect of a program."""
        require_program(program)
        taken, given, core = program_values(program)
        return cls(taken, given, core)

    @classmethod
    def identity(cls):
        """Return the effect that leaves every queue as it is."""
        return cls("", "", 0)

    @staticmethod
    def is_core(takes, puts, core):
        """Return whether there are programs with these takes, puts and core, whatever their number of items."""
        require_word(takes)
        require_word(puts)
        return is_fitting_core(takes, puts, core)

    def apply(self, queue):
        """Return the best result on a queue, or None."""
        require_word(queue)
        return within_limit(effect_result(self.taken, self.given, self.needed, queue))

    def then(self, *effects):
        """Return the effect of performing this one and then the others, in order."""
        size = len(self.taken) + len(self.given)
        for index, effect in enumerate(effects):
            if not isinstance(effect, Effect):
                raise InvalidEffect(index)
            size += len(effect.takes) + len(effect.puts)
        if size > Effect.MAX_ITEMS:
            raise LimitExceeded(Effect.MAX_ITEMS)
        taken, given, core = self.taken, self.given, self.needed
        for effect in effects:
            core = joined_core(taken, given, core, effect.takes, effect.core)
            taken += effect.takes
            given += effect.puts
        return Effect(taken, given, core)

    def __eq__(self, other):
        if not isinstance(other, Effect):
            return False
        return self.taken == other.taken and self.given == other.given and self.needed == other.needed

    def __repr__(self):
        return f"Effect({self.taken!r}, {self.given!r}, {self.needed!r})"

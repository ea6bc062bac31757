"""Counting: how many programs have an effect, and their order by put counts."""

from leakyqueue.cores import count_unserved
from leakyqueue.effects import Effect
from leakyqueue.errors import InvalidEffect
from leakyqueue.exchanges import arranged, early_counts, least_counts
from leakyqueue.integers import require_number_from
from leakyqueue.programs import put_counts
from leakyqueue.words import require_word


def require_effect(value):
    """Raise InvalidEffect if the value, the only one that must be an effect, is not one."""
    if not isinstance(value, Effect):
        raise InvalidEffect(None)


def ways_to_go_on(least, size):
    """Return a list of rows, one for each take and one for the end.

    Each row says, for each number up to the size and one more, in how many ways ascending put counts can be chosen
    from this take on, if none of them is below this number or the least one of its take.
    """
    rows = [[1] * (size + 1) + [0]]
    for least_count in reversed(least):
        row = [0] * (size + 2)
        for count in range(size, -1, -1):
            row[count] = row[count + 1] + (rows[-1][count] if count >= least_count else 0)
        rows.append(row)
    rows.reverse()
    return rows


class Choices:
    """The put counts of the programs with an effect, in order, chosen from the first take on.

    All programs with the least counts have this core or a smaller one. Those with a smaller one do not count; they
    are kept away as soon as one take comes too early for them.
    """

    def __init__(self, effect):
        size = len(effect.puts)
        self.early = early_counts(effect)
        self.fitting = ways_to_go_on(least_counts(effect), size)
        self.smaller = ways_to_go_on([count + 1 for count in self.early], size)
        # There is no core below 0, so nothing has to be kept away.
        self.kept_away = effect.core == 0

    def ways(self, number, count, kept_away):
        """Return in how many ways the counts from this take on can be chosen, if none is below this count."""
        if kept_away:
            return self.fitting[number][count]
        return self.fitting[number][count] - self.smaller[number][count]

    def total(self):
        """Return the number of programs with the effect."""
        return self.ways(0, 0, self.kept_away)

    def position_of_counts(self, counts):
        """Return how many programs with the effect come before the one with these counts."""
        position = 0
        previous = 0
        kept_away = self.kept_away
        for number, count in enumerate(counts):
            position += self.ways(number, previous, kept_away) - self.ways(number, count, kept_away)
            kept_away = kept_away or count <= self.early[number]
            previous = count
        return position

    def counts_at(self, position):
        """Return the counts of the program with this position, which must be below the total."""
        counts = []
        left = position
        count = 0
        kept_away = self.kept_away
        for number, early in enumerate(self.early):
            before = self.ways(number, count, kept_away)
            while before - self.ways(number, count + 1, kept_away) <= left:
                count += 1
            left -= before - self.ways(number, count, kept_away)
            kept_away = kept_away or count <= early
            counts.append(count)
        return counts


def effects_of(takes, puts):
    """Return all effects with these takes and puts, with ascending cores."""
    require_word(takes)
    require_word(puts)
    # If the puts can serve all takes after a core, they can do so after each greater one. The core of all takes always
    # fits, so there is an effect to raise LimitExceeded if there are too many items.
    return [Effect(takes, puts, core) for core in range(count_unserved(takes, puts), len(takes) + 1)]


def program_count(effect):
    """Return the number of programs with this effect."""
    require_effect(effect)
    return Choices(effect).total()


def program_at(effect, position):
    """Return the program with this position among those with this effect, or None."""
    require_effect(effect)
    require_number_from(position, 0)
    choices = Choices(effect)
    if position >= choices.total():
        return None
    return arranged(effect, choices.counts_at(position))


def programs(effect):
    """Yield all programs with this effect, in order."""
    require_effect(effect)
    choices = Choices(effect)
    position = 0
    while position < choices.total():
        yield arranged(effect, choices.counts_at(position))
        position += 1


def position_of(program):
    """Return the position of the program among those with its effect."""
    return Choices(Effect.of(program)).position_of_counts(put_counts(program))

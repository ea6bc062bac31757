"""Words: strings of items, and their subsequences."""

from leakyqueue.errors import InvalidWord

ITEMS = "abcdefgh"
MAX_LENGTH = 400


def is_string_of(value, letters, longest=MAX_LENGTH):
    """Return whether the value is a string of these letters, with at most this length."""
    # Stripping stops at the first other character from either end, so nothing remains only if there is none.
    return isinstance(value, str) and len(value) <= longest and value.strip(letters) == ""


def is_word(value):
    """Return whether the value is a word."""
    return is_string_of(value, ITEMS)


def require_word(value):
    """Raise InvalidWord if the value is not a word."""
    if not is_word(value):
        raise InvalidWord(value)


def earliest_positions(part, word):
    """Return the earliest positions of the longest prefix of part that is a subsequence of word."""
    positions = []
    start = 0
    for item in part:
        position = word.find(item, start)
        if position < 0:
            break
        positions.append(position)
        start = position + 1
    return positions


def end_of(positions):
    """Return the place just behind ascending positions."""
    return positions[-1] + 1 if positions else 0


def embeds(part, word):
    """Return whether part is a subsequence of word, where both may have any length."""
    return len(earliest_positions(part, word)) == len(part)


def without(word, positions):
    """Return the word without the items at these positions."""
    lost = set(positions)
    return "".join([item for at, item in enumerate(word) if at not in lost])


def is_subsequence(part, word):
    """Return whether part is a subsequence of word."""
    require_word(part)
    require_word(word)
    return embeds(part, word)


def embedding(part, word):
    """Return the list of the earliest positions of part in word, or None."""
    require_word(part)
    require_word(word)
    positions = earliest_positions(part, word)
    return positions if len(positions) == len(part) else None


def prefix_length(part, word):
    """Return the length of the longest prefix of part that is a subsequence of word."""
    require_word(part)
    require_word(word)
    return len(earliest_positions(part, word))

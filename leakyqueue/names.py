"""Names of channels, processes and sessions."""

from leakyqueue.words import is_string_of

LETTERS = "abcdefghijklmnopqrstuvwxyz"
MAX_NAME_LENGTH = 8


def is_name(value):
    """Return whether the value is a name."""
    return is_string_of(value, LETTERS, MAX_NAME_LENGTH) and value != ""

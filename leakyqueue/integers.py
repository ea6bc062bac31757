"""Integers: True and False are none."""

from leakyqueue.errors import InvalidNumber


def is_integer(value):
    """Return whether the value is an integer."""
    return isinstance(value, int) and not isinstance(value, bool)


def is_integer_within(value, low, high):
    """Return whether the value is an integer from low to high."""
    return is_integer(value) and low <= value <= high


def require_number(value, low, high):
    """Raise InvalidNumber if the value is not an integer from low to high."""
    if not is_integer_within(value, low, high):
        raise InvalidNumber(value)


def require_number_from(value, low):
    """Raise InvalidNumber if the value is not an integer from low on."""
    if not is_integer(value) or value < low:
        raise InvalidNumber(value)

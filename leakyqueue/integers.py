"""Integers: True and False are none."""


def is_integer(value):
    """Return whether the value is an integer."""
    return isinstance(value, int) and not isinstance(value, bool)


def is_integer_within(value, low, high):
    """Return whether the value is an integer from low to high."""
    return is_integer(value) and low <= value <= high

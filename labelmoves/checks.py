"""Checks of values and parameters that occur in several modules."""

from labelmoves.errors import InvalidNumber, InvalidWay


def is_integer(value):
    """True and False count as integers for Python, but not here."""
    return isinstance(value, int) and not isinstance(value, bool)


def is_integer_within(value, low, high):
    """Whether the value is an integer from `low` to `high`."""
    return is_integer(value) and low <= value <= high


def is_number(value):
    """Whether the value is an integer from 0 on."""
    return is_integer(value) and value >= 0


def check_number(given):
    """Raise InvalidNumber unless this is an integer from 0 on."""
    if not is_number(given):
        raise InvalidNumber(given)


def is_way(value):
    """Whether the value is "next" or "last"."""
    # Other classes are turned away first, since their `==` may say anything.
    return isinstance(value, str) and value in ("next", "last")


def check_way(given):
    """Raise InvalidWay unless this is "next" or "last"."""
    if not is_way(given):
        raise InvalidWay(given)


def word_of(value):
    """The string with which the tuple begins, None for any other value."""
    if isinstance(value, tuple) and len(value) > 0 and isinstance(value[0], str):
        return value[0]
    return None

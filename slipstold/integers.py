"""Integers within limits."""


def is_integer_between(value, least, most):
    """Whether the value is an integer from least to most; True and False are none."""
    return isinstance(value, int) and not isinstance(value, bool) and least <= value <= most

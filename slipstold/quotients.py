"""Fractions: tuples of two integers in lowest terms, the one below from 1 on."""

from slipstold.errors import NoNumber
from slipstold.integers import is_integer

ZERO = (0, 1)
ONE = (1, 1)
# A literal exponent may be 64 at most.
RATIO_LIMIT = 10 ** 50 * 10 ** 50


def is_fraction(value):
    """Whether the value is a fraction."""
    if not isinstance(value, tuple) or len(value) != 2:
        return False
    above, below = value
    return is_integer(above) and is_integer(below) and below >= 1 and common_divisor(above, below) == 1


def check_ratio(p):
    """Raise NoNumber if the value is no fraction, 0 or more, that may stand for a ratio."""
    if not is_fraction(p) or p[0] < 0 or max(p) >= RATIO_LIMIT:
        raise NoNumber()


def common_divisor(one, other):
    """The greatest integer that divides both."""
    while other != 0:
        one, other = other, one % other
    return abs(one)


def lowest(above, below):
    """The fraction with this value; below is an integer from 1 on."""
    divisor = common_divisor(above, below)
    return above // divisor, below // divisor


def is_less(one, other):
    """Whether one fraction is less than the other; they need not be in lowest terms."""
    return one[0] * other[1] < other[0] * one[1]


def added(one, other):
    """The sum of two fractions, not in lowest terms."""
    return one[0] * other[1] + other[0] * one[1], one[1] * other[1]

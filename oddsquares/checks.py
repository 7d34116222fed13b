"""What kind any value is of."""

from math import gcd


def is_integer(value):
    """Whether it is an integer; True and False are none."""
    return isinstance(value, int) and not isinstance(value, bool)


def is_within(value, least, most):
    """Whether it is an integer from least to most; None is no bound."""
    if not is_integer(value):
        return False
    if least is not None and value < least:
        return False
    return most is None or value <= most


def is_row(value):
    """Whether it is a list or a tuple."""
    return isinstance(value, (list, tuple))


def is_pair(value):
    """Whether it is a list or a tuple of two."""
    return is_row(value) and len(value) == 2


def is_number(value):
    """Whether it is an integer, or a pair (top, under) in lowest terms."""
    if not is_pair(value):
        return is_integer(value)
    top, under = value
    return is_integer(top) and is_within(under, 1, None) and gcd(top, under) == 1


def is_point(value):
    """Whether it is a pair of numbers."""
    return is_pair(value) and is_number(value[0]) and is_number(value[1])


def are_points(value, least, most):
    """Whether it is a list or a tuple of points, from least to most of them."""
    if not is_row(value) or not is_within(len(value), least, most):
        return False
    return all([is_point(item) for item in value])

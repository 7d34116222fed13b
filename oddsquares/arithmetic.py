"""Numbers as pairs (top, under) in lowest terms. What is passed is not looked at: the callers know it."""

from math import gcd, lcm

ZERO = (0, 1)
ONE = (1, 1)


def lowest(top, under):
    """top divided by under, which is not 0."""
    part = gcd(top, under)
    if under < 0:
        part = -part
    return (top // part, under // part)


def pair_of(value):
    """The pair of a number that may be told as an integer."""
    if isinstance(value, (list, tuple)):
        return tuple(value)
    return (value, 1)


def negative(value):
    """0 less value."""
    return (-value[0], value[1])


def sum_of(one, other):
    """one plus other."""
    return lowest(one[0] * other[1] + other[0] * one[1], one[1] * other[1])


def difference(one, other):
    """one less other."""
    return lowest(one[0] * other[1] - other[0] * one[1], one[1] * other[1])


def product_of(one, other):
    """one times other."""
    return lowest(one[0] * other[0], one[1] * other[1])


def quotient(one, other):
    """one divided by other, which is not 0."""
    return lowest(one[0] * other[1], one[1] * other[0])


def is_below(one, other):
    """Whether one is less than other."""
    return one[0] * other[1] < other[0] * one[1]


def sign(top):
    """1, 0 or -1, as the integer is above 0, 0 or below 0."""
    if top > 0:
        return 1
    if top < 0:
        return -1
    return 0


def is_share(value):
    """Whether it is from 0 to 1."""
    return 0 <= value[0] <= value[1]


def whole(numbers):
    """The numbers times the least integer that makes all of them integers, and this integer."""
    under = 1
    for number in numbers:
        under = lcm(under, number[1])
    return [number[0] * (under // number[1]) for number in numbers], under

"""Points and vectors with pairs as their numbers. What is passed is not looked at: the callers know it."""

from oddsquares.arithmetic import difference, is_below, negative, pair_of, product_of, sum_of


def point_of(value):
    """The point with pairs as its numbers."""
    return (pair_of(value[0]), pair_of(value[1]))


def joined(one, other):
    """The sum of two vectors."""
    return (sum_of(one[0], other[0]), sum_of(one[1], other[1]))


def way_between(start, end):
    """The vector from start to end."""
    return (difference(end[0], start[0]), difference(end[1], start[1]))


def stretched(way, factor):
    """A vector times a factor."""
    return (product_of(way[0], factor), product_of(way[1], factor))


def turned(way):
    """A vector, a quarter to the left."""
    return (negative(way[1]), way[0])


def cross_of(one, other):
    """The cross of two vectors: above 0 if the second one points to the left of the first one."""
    return difference(product_of(one[0], other[1]), product_of(one[1], other[0]))


def dot_of(one, other):
    """The dot of two vectors."""
    return sum_of(product_of(one[0], other[0]), product_of(one[1], other[1]))


def moved(start, way, share):
    """The start, moved by share times a vector."""
    return joined(start, stretched(way, share))


def comes_before(one, other):
    """Whether a point is to the left of another one, or straight below it: an order along each line."""
    return is_below(one[0], other[0]) or (one[0] == other[0] and is_below(one[1], other[1]))

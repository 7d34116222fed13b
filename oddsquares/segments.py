"""Sides: pairs (start, end) of unlike points. What is passed is not looked at: the callers know it."""

from oddsquares.arithmetic import is_below, quotient, sign
from oddsquares.vectors import comes_before, cross_of, moved, way_between


def sides_of(corners):
    """For each side of a closed line the pair of the points from which and to which it leads."""
    return tuple(zip(corners, corners[1:] + corners[:1]))


def _loose(one, other):
    """one less other, above an under that need not be the lowest one: enough to tell a sign, and quickly."""
    return (one[0] * other[1] - other[0] * one[1], one[1] * other[1])


def bend(start, middle, end):
    """The sign of the cross of the vectors from start to middle and from start to end.

    So it is 1 if the three points are told left-hand round, -1 if right-hand round, 0 if they are on one line.
    """
    across, across_under = _loose(middle[0], start[0])
    rise, rise_under = _loose(middle[1], start[1])
    along, along_under = _loose(end[0], start[0])
    up, up_under = _loose(end[1], start[1])
    return sign(across * up * rise_under * along_under - rise * along * across_under * up_under)


def _ordered(side):
    """The ends of a side, the one that comes before the other one first."""
    if comes_before(side[1], side[0]):
        return (side[1], side[0])
    return side


def lies_on(point, side):
    """Whether a point lies on a side, its ends included."""
    if bend(side[0], side[1], point) != 0:
        return False
    low, high = _ordered(side)
    return not comes_before(point, low) and not comes_before(high, point)


def _shared_stretch(one, other):
    """A point of two sides on one line, or None: the later one of their first ends, if any."""
    low, high = _ordered(one)
    first, last = _ordered(other)
    if comes_before(low, first):
        low = first
    if comes_before(last, high):
        high = last
    if comes_before(high, low):
        return None
    return low


def common_point(one, other):
    """A point that lies on both sides, or None."""
    start = bend(one[0], one[1], other[0])
    end = bend(one[0], one[1], other[1])
    if start == 0 and end == 0:
        return _shared_stretch(one, other)
    if start == end or bend(other[0], other[1], one[0]) * bend(other[0], other[1], one[1]) > 0:
        return None
    way = way_between(one[0], one[1])
    other_way = way_between(other[0], other[1])
    over = cross_of(way_between(one[0], other[0]), other_way)
    return moved(one[0], way, quotient(over, cross_of(way, other_way)))


def is_around(sides, point):
    """Whether a point that is on none of the sides is inside of the closed line that they make.

    It is if a ray from it to the right passes the line an odd number of times.
    """
    is_inside = False
    for start, end in sides:
        is_rising = is_below(point[1], end[1])
        if is_rising != is_below(point[1], start[1]) and (bend(start, end, point) > 0) == is_rising:
            is_inside = not is_inside
    return is_inside

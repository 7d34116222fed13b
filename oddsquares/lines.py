"""Sides that keep their directions, and the posts on their lines. What is passed is not looked at: the callers know it.

A side is told by a pair (start, end) for each moment that is looked at: for one alone, or for the first and the last
one. The sides are numbered from 0; a four is a row of four numbers. For the ratio up / along the posts of a row are
p0, p0 + along w, p0 + along w + up (w turned) and p0 + up (w turned): four equations, one for each line, tell the
coordinates of p0 and of w. All of it is worked out in integers, since there are many fours.
"""

from oddsquares.arithmetic import lowest, sign, whole
from oddsquares.minors import facing, joint, six_of
from oddsquares.spans import ALL, clipped
from oddsquares.vectors import cross_of, way_between

# For each post whether it is p0 moved along w, and whether it is p0 moved up.
ALONG = (0, 1, 1, 0)
UP = (0, 0, 1, 1)


def _way_of(side):
    """The direction of a side as a vector of integers."""
    start, end = side[0] if side[0][0] != side[0][1] else side[-1]
    return whole(way_between(start, end))[0]


def _equation(side, along, up):
    """The equation of a post on the line of a side: the factors of p0 and w, and for each moment what they make."""
    x, y = _way_of(side)
    made, under = whole([cross_of(((x, 1), (y, 1)), start) for start, end in side])
    factors = (-y, x, up * x - along * y, along * x + up * y)
    return [factor * under for factor in factors], made


def _swapped(equation, moment, place):
    """The factors of an equation with what they make at a moment in the place of one of them."""
    factors, made = equation
    return factors[:place] + [made[moment]] + factors[place + 1:]


def _sixes(one, other):
    """Of two equations the six of their factors, and for each moment and place those with what they make there."""
    parts = [[six_of(_swapped(one, moment, place), _swapped(other, moment, place)) for place in range(4)]
             for moment in range(len(one[1]))]
    return (six_of(one[0], other[0]), parts)


def _faced(sixes):
    """What facing makes of each of the sixes."""
    return (facing(sixes[0]), [[facing(six) for six in part] for part in sixes[1]])


def _bounds(side):
    """The coordinate, 0 or 1, that tells places along a side; an under; and above it the least and the greatest ones.

    These are rows with a number for each moment.
    """
    x, y = _way_of(side)
    axis = 0 if x != 0 else 1
    starts = [start[axis] for start, end in side]
    tops, under = whole(starts + [end[axis] for start, end in side])
    first, second = tops[:len(starts)], tops[len(starts):]
    if (x, y)[axis] < 0:
        return (axis, under, second, first)
    return (axis, under, first, second)


class Lines:
    """The lines of some sides, for frames of a ratio."""

    def __init__(self, sides, ratio):
        self.ratio = ratio
        self.bounds = [_bounds(side) for side in sides]
        up, along = ratio
        rows = [[_equation(side, along * ALONG[post], up * UP[post]) for side in sides] for post in range(4)]
        # With p1 ahead of p0 the size has the sign that the document tells.
        self.fronts = [[_sixes(other, one) for other in rows[1]] for one in rows[0]]
        self.backs = [[_faced(_sixes(one, other)) for other in rows[3]] for one in rows[2]]

    def size(self, four):
        """An integer with the sign of the determinant of the four."""
        return joint(self.fronts[four[0]][four[1]][0], self.backs[four[2]][four[3]][0])

    def above(self, four, place):
        """For each moment what the solution has at this place, above the size: x and y of p0, then of w."""
        front, back = self.fronts[four[0]][four[1]][1], self.backs[four[2]][four[3]][1]
        return [joint(one[place], other[place]) for one, other in zip(front, back)]

    def _held(self, span, side, size, tops):
        """The part of a span in which a post with these coordinates, above the size, is on its side; or None."""
        axis, under, least, greatest = self.bounds[side]
        over = [top[axis] * under - low * size for top, low in zip(tops, least)]
        span = clipped(span, over[0], over[-1])
        if span is None:
            return None
        over = [high * size - top[axis] * under for top, high in zip(tops, greatest)]
        return clipped(span, over[0], over[-1])

    def _tops(self, solution, post):
        """The coordinates of a post, above the size."""
        x, y, across, rise = solution
        up, along = self.ratio
        along, up = along * ALONG[post], up * UP[post]
        return (x + along * across - up * rise, y + along * rise + up * across)

    def stretch(self, four, size):
        """The span in which the posts are on the sides of a four with this size, and the posts at each moment; or None.

        The size is not 0. Of one moment alone the span is ALL.
        """
        turn = sign(size)
        under = turn * size
        rows = [[turn * top for top in self.above(four, place)] for place in range(4)]
        told = [[self._tops(solution, number) for number in range(4)] for solution in zip(*rows)]
        span = ALL
        for post, side in enumerate(four):
            span = self._held(span, side, under, [tops[post] for tops in told])
            if span is None:
                return None
        return span, [tuple([(lowest(x, under), lowest(y, under)) for x, y in tops]) for tops in told]

"""Safe films: those in which no two sides touch at an inner moment."""

from oddsquares.arithmetic import sign
from oddsquares.fences import are_next
from oddsquares.films import both_ends, check_film
from oddsquares.moving import at_moment, direction_of
from oddsquares.papers import Denial, Paper
from oddsquares.segments import common_point, lies_on
from oddsquares.spans import ALL, clipped_by, inner_moment
from oddsquares.vectors import cross_of, dot_of, moved, way_between

HALF = (1, 2)


class Safe(Paper):
    """At no inner moment two sides of the film touch."""

    def __init__(self):
        super().__init__("safe")


class Touch(Denial):
    """Two sides of the film touch at this inner moment, at this point."""

    def __init__(self, moment, one, other, point):
        super().__init__("touch", moment, one, other, point)
        self.moment, self.one, self.other, self.point = self.parts


def _crosses(way, side, begin, other, end):
    """At 0 and at 1 the cross of a vector with the way from an end of a moving side to an end of the other one."""
    return [cross_of(way, way_between(one[begin], told[end])) for one, told in zip(side, other)]


def _rules(one, other, way, other_way):
    """What is not below 0 where two moving sides meet: pairs of numbers, at 0 and at 1.

    The second side's direction, other_way, points to the right of that of the first one, way. Each side has its ends on
    both sides of the other one's line.
    """
    return [_crosses(way, one, 0, other, 0), _crosses(way, other, 1, one, 0),
            _crosses(other_way, other, 0, one, 1), _crosses(other_way, one, 0, other, 0)]


def _touching_moment(one, other):
    """An inner moment at which two moving sides that are not in parallel have a point in common, or None."""
    way, other_way = direction_of(one), direction_of(other)
    turn = sign(cross_of(way, other_way)[0])
    if turn == 0:
        return None
    rules = _rules(one, other, way, other_way) if turn < 0 else _rules(other, one, other_way, way)
    span = ALL
    for first, last in rules:
        span = clipped_by(span, first, last)
        if span is None:
            return None
    return inner_moment(span)


def _touch(one, other, side, told):
    """The Touch of two sides that are no neighbours, told as pairs (fence, side) and as moving sides, or None."""
    moment = _touching_moment(side, told)
    if moment is None:
        return None
    return Touch(moment, one, other, common_point(at_moment(side, moment), at_moment(told, moment)))


def _touch_of_neighbours(one, other, side, told):
    """The Touch of two neighbours, or None: they touch at all inner moments if they go straight back, else at none."""
    way, other_way = direction_of(side), direction_of(told)
    if cross_of(way, other_way)[0] != 0 or dot_of(way, other_way)[0] > 0:
        return None
    here, there = at_moment(side, HALF), at_moment(told, HALF)
    # A point halfway on one of them is not their corner; the one on the shorter of them lies on both.
    halfway = [moved(start, way_between(start, end), HALF) for start, end in (here, there)]
    common = [point for point in halfway if lies_on(point, here) and lies_on(point, there)]
    return Touch(HALF, one, other, common[0])


def are_next_sides(film, one, other):
    """Whether two unlike sides of a film are neighbours."""
    return one[0] == other[0] and are_next(one[1], other[1], len(film.first[one[0]]))


def judged_film(film):
    """Safe, or a Touch.

    Two sides in parallel that are no neighbours need not be looked at. Where they touch, they are on one line, and one
    of the rows of sides on this line ends on the other one: there the next side of its fence touches, too, or the rows
    go straight back.
    """
    check_film(film)
    ends = both_ends(film)
    for number, one in enumerate(film.sides):
        for place in range(number + 1, len(ends)):
            other = film.sides[place]
            find = _touch_of_neighbours if are_next_sides(film, one, other) else _touch
            found = find(one, other, ends[number], ends[place])
            if found is not None:
                return found
    return Safe()

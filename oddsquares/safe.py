"""Safe films: those in which no two sides touch at an inner moment."""

from oddsquares.arithmetic import is_below, negative, sign
from oddsquares.fences import are_next
from oddsquares.films import both_ends, check_film
from oddsquares.moving import at_moment, direction_of
from oddsquares.papers import Denial, Paper
from oddsquares.segments import common_point, lies_on
from oddsquares.spans import ALL, clipped_by, inner_moment
from oddsquares.vectors import cross_of, dot_of, moved, way_between

HALF = (1, 2)


class Safe(Paper):
    """At no inner moment two sides of the film touch."""

    def __init__(self):
        super().__init__("safe")


class Touch(Denial):
    """Two sides of the film touch at this inner moment, at this point."""

    def __init__(self, moment, one, other, point):
        super().__init__("touch", moment, one, other, point)
        self.moment, self.one, self.other, self.point = self.parts


def _ways(one, begin, other, end):
    """At 0 and at 1 the vector from an end of a moving side to an end of the other one."""
    return [way_between(side[begin], told[end]) for side, told in zip(one, other)]


def _crosses(way, ways):
    """The crosses of a vector with each of the ways."""
    return [cross_of(way, told) for told in ways]


def _negatives(numbers):
    """0 less each of the numbers."""
    return [negative(number) for number in numbers]


def _crossing_rules(one, other, way, other_way):
    """Each side has its ends on both sides of the other one's line; other_way points to the right of way."""
    return [_crosses(other_way, _ways(other, 0, one, 1)), _negatives(_crosses(other_way, _ways(other, 0, one, 0))),
            _negatives(_crosses(way, _ways(one, 0, other, 1))), _crosses(way, _ways(one, 0, other, 0))]


def _sliding_rules(one, other, way, is_along):
    """Both sides are on one line, and neither begins behind the end of the other one; is_along: if they go one way."""
    low, high = (0, 1) if is_along else (1, 0)
    beside = _crosses(way, _ways(one, 0, other, 0))
    return [beside, _negatives(beside), [dot_of(way, told) for told in _ways(one, 0, other, high)],
            [dot_of(way, told) for told in _ways(other, low, one, 1)]]


def _rules(one, other):
    """What is not below 0 where two moving sides have a point in common: pairs of numbers, at 0 and at 1."""
    way, other_way = direction_of(one), direction_of(other)
    turn = sign(cross_of(way, other_way)[0])
    if turn < 0:
        return _crossing_rules(one, other, way, other_way)
    if turn > 0:
        return _crossing_rules(other, one, other_way, way)
    return _sliding_rules(one, other, way, dot_of(way, other_way)[0] > 0)


def _touching_moment(one, other):
    """An inner moment at which two moving sides have a point in common, or None."""
    span = ALL
    for first, last in _rules(one, other):
        span = clipped_by(span, first, last)
        if span is None:
            return None
    return inner_moment(span)


def _box(side):
    """The least and the greatest x, and the least and the greatest y, of a moving side at all moments."""
    box = []
    for axis in (0, 1):
        low = high = side[0][0][axis]
        for point in side[0] + side[1]:
            if is_below(point[axis], low):
                low = point[axis]
            if is_below(high, point[axis]):
                high = point[axis]
        box.append((low, high))
    return box


def _are_apart(box, other):
    """Whether two boxes have no point in common."""
    return any([is_below(one[1], two[0]) or is_below(two[1], one[0]) for one, two in zip(box, other)])


def _touch(one, other, side, told):
    """The Touch of two sides that are no neighbours, told as pairs (fence, side) and as moving sides, or None."""
    moment = _touching_moment(side, told)
    if moment is None:
        return None
    return Touch(moment, one, other, common_point(at_moment(side, moment), at_moment(told, moment)))


def _touch_of_neighbours(one, other, side, told):
    """The Touch of two neighbours, or None: they touch at all inner moments if they go straight back, else at none."""
    way, other_way = direction_of(side), direction_of(told)
    if cross_of(way, other_way)[0] != 0 or dot_of(way, other_way)[0] > 0:
        return None
    here, there = at_moment(side, HALF), at_moment(told, HALF)
    shorter = there if lies_on(there[0], here) and lies_on(there[1], here) else here
    return Touch(HALF, one, other, moved(shorter[0], way_between(shorter[0], shorter[1]), HALF))


def are_next_sides(film, one, other):
    """Whether two unlike sides of a film are neighbours."""
    return one[0] == other[0] and are_next(one[1], other[1], len(film.first[one[0]]))


def judged_film(film):
    """Safe, or a Touch."""
    check_film(film)
    ends = both_ends(film)
    boxes = [_box(side) for side in ends]
    for number, one in enumerate(film.sides):
        for place in range(number + 1, len(ends)):
            other = film.sides[place]
            if are_next_sides(film, one, other):
                found = _touch_of_neighbours(one, other, ends[number], ends[place])
            elif _are_apart(boxes[number], boxes[place]):
                continue
            else:
                found = _touch(one, other, ends[number], ends[place])
            if found is not None:
                return found
    return Safe()

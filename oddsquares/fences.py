"""Fences: closed lines of straight sides that do not touch themselves."""

from oddsquares.arguments import point_in
from oddsquares.arithmetic import ZERO, product_of, sum_of
from oddsquares.checks import are_points
from oddsquares.errors import BadFence, NoFence
from oddsquares.papers import Denial, Paper
from oddsquares.segments import bend, common_point, is_around, lies_on, sides_of
from oddsquares.vectors import cross_of, dot_of, point_of, way_between

FEWEST_CORNERS = 3
MOST_CORNERS = 40
BENDS = {1: "left", 0: "straight", -1: "right"}


class Closed(Paper):
    """The corners make a fence; is_left tells whether they come left-hand round."""

    def __init__(self, is_left):
        super().__init__("closed", is_left)
        self.is_left = self.parts[0]


class Short(Denial):
    """A side has no length."""

    def __init__(self, side):
        super().__init__("short", side)
        self.side = self.parts[0]


class Back(Denial):
    """At a corner the sides go straight back."""

    def __init__(self, corner):
        super().__init__("back", corner)
        self.corner = self.parts[0]


class Meets(Denial):
    """Two sides that are not neighbours have a point in common."""

    def __init__(self, one, other, point):
        super().__init__("meets", one, other, point)
        self.one, self.other, self.point = self.parts


def _corners_in(corners):
    """The corners with pairs as their numbers."""
    if not are_points(corners, FEWEST_CORNERS, MOST_CORNERS):
        raise BadFence("corners")
    return tuple([point_of(corner) for corner in corners])


def _goes_back(coming, leaving):
    """Whether two sides, one behind the other, go straight back at their corner."""
    way = way_between(coming[0], coming[1])
    other = way_between(leaving[0], leaving[1])
    return cross_of(way, other) == ZERO and dot_of(way, other)[0] < 0


def are_next(one, other, many):
    """Whether two sides of a fence of so many are neighbours, or the same one."""
    return (one - other) % many in (0, 1, many - 1)


def _meeting(sides):
    """The Meets of the least pair of sides, or None."""
    many = len(sides)
    for one in range(many):
        for other in range(one + 1, many):
            if are_next(one, other, many):
                continue
            point = common_point(sides[one], sides[other])
            if point is not None:
                return Meets(one, other, point)
    return None


def _doubled_area(corners):
    """Twice what the corners enclose: above 0 if they come left-hand round."""
    total = ZERO
    for start, end in sides_of(corners):
        total = sum_of(total, cross_of(start, end))
    return total


def _judged(corners):
    """As judged_corners, for points with pairs as their numbers."""
    sides = sides_of(corners)
    for number, side in enumerate(sides):
        if side[0] == side[1]:
            return Short(number)
    for number, side in enumerate(sides):
        if _goes_back(sides[number - 1], side):
            return Back(number)
    meeting = _meeting(sides)
    if meeting is not None:
        return meeting
    return Closed(_doubled_area(corners)[0] > 0)


def judged_corners(corners):
    """The first of Short, Back, Meets that fits, with the least side, corner or pair; otherwise Closed."""
    return _judged(_corners_in(corners))


def _bends_of(corners):
    """For each corner how the closed line bends there."""
    return tuple([BENDS[bend(corners[number - 1], start, end)]
                  for number, (start, end) in enumerate(sides_of(corners))])


class Fence:
    """A fence; its corners are kept left-hand round."""

    def __init__(self, corners):
        points = _corners_in(corners)
        why = _judged(points)
        if not why:
            raise NoFence(why)
        if not why.is_left:
            points = points[:1] + points[:0:-1]
        self.corners = points
        self.sides = sides_of(points)
        self.area = product_of(_doubled_area(points), (1, 2))
        self.bends = _bends_of(points)

    def where(self, point):
        """("corner", k), ("side", k), ("inside",) or ("outside",)."""
        place = point_in(point, "point")
        for number, corner in enumerate(self.corners):
            if place == corner:
                return ("corner", number)
        for number, side in enumerate(self.sides):
            if lies_on(place, side):
                return ("side", number)
        if is_around(self.sides, place):
            return ("inside",)
        return ("outside",)

    def __contains__(self, point):
        return self.where(point) != ("outside",)

    def __len__(self):
        return len(self.corners)

    def __eq__(self, other):
        return isinstance(other, Fence) and self.corners == other.corners

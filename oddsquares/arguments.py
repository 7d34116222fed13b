"""What is passed as a number, a ratio or a point: as pairs, or the error that is told for it."""

from oddsquares.arithmetic import pair_of
from oddsquares.checks import are_points, is_number, is_point
from oddsquares.errors import BadNumber, BadPoint, BadRatio
from oddsquares.vectors import point_of


def number_in(value, part):
    """The pair of a number: BadNumber(part) for what is none."""
    if not is_number(value):
        raise BadNumber(part)
    return pair_of(value)


def above_0_in(value, part):
    """The pair of a number above 0: BadNumber(part) for what is none."""
    told = number_in(value, part)
    if told[0] <= 0:
        raise BadNumber(part)
    return told


def inner_share_in(value):
    """The pair of a number above 0 and below 1: BadNumber("share") for what is none."""
    told = above_0_in(value, "share")
    if told[0] >= told[1]:
        raise BadNumber("share")
    return told


def ratio_in(value):
    """The pair of a ratio: BadRatio("ratio") for what is no number above 0."""
    if not is_number(value) or pair_of(value)[0] <= 0:
        raise BadRatio("ratio")
    return pair_of(value)


def point_in(value, part):
    """The point with pairs as its numbers: BadPoint(part) for what is none."""
    if not is_point(value):
        raise BadPoint(part)
    return point_of(value)


def posts_in(value, part):
    """Four points with pairs as their numbers: BadPoint(part) for what is no four points."""
    if not are_points(value, 4, 4):
        raise BadPoint(part)
    return tuple([point_of(post) for post in value])

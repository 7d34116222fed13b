"""Frames over the sides of fences of three corners."""

from oddsquares.arguments import ratio_in
from oddsquares.arithmetic import difference, product_of, quotient, sum_of
from oddsquares.checks import is_within
from oddsquares.errors import BadFence, BadNumber, Misfit
from oddsquares.fences import FEWEST_CORNERS, Fence
from oddsquares.vectors import cross_of, dot_of, moved, way_between


def _over(start, end, top, ratio):
    """The posts of the frame over the base from start to end, below the top; None if an angle at the base is blunt."""
    base, rise, fall = way_between(start, end), way_between(start, top), way_between(end, top)
    squared = dot_of(base, base)
    along = dot_of(base, rise)
    if along[0] < 0 or dot_of(base, fall)[0] > 0:
        return None
    # The frame is as wide as the triangle where it ends, at this share of the way up.
    wide = product_of(ratio, squared)
    share = quotient(wide, sum_of(wide, cross_of(base, rise)))
    foot = moved(start, base, product_of(share, quotient(along, squared)))
    beside = moved(foot, base, difference((1, 1), share))
    return (foot, beside, moved(end, fall, share), moved(start, rise, share))


def over_base(fence, base, ratio):
    """The posts of the frame with p0 and p1 on this side of a fence of three corners, or None."""
    if not isinstance(fence, Fence):
        raise BadFence("fence")
    if not is_within(base, 0, len(fence) - 1):
        raise BadNumber("base")
    size = ratio_in(ratio)
    if len(fence) > FEWEST_CORNERS:
        raise Misfit("fence")
    start, end = fence.sides[base]
    return _over(start, end, fence.corners[(base + 2) % FEWEST_CORNERS], size)

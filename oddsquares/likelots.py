"""Lots that are like a lot: moved, turned, mirrored, grown, with a straight corner; and the rows of 1 / ratio."""

from oddsquares.arguments import above_0_in, inner_share_in, point_in, ratio_in
from oddsquares.arithmetic import ONE, negative
from oddsquares.errors import BadPaper, Misfit, TooMany
from oddsquares.fences import MOST_CORNERS, Fence
from oddsquares.judged import Plain
from oddsquares.lot_arguments import check_fence_of, check_lot, check_side_of
from oddsquares.lots import MOST_SIDES, Lot
from oddsquares.rounds import steps_of
from oddsquares.vectors import joined, moved, stretched, turned, way_between


def _lot_of(rows):
    """The lot of fences with these corners."""
    return Lot([Fence(row) for row in rows])


def shifted(lot, vector):
    """The lot, all corners moved by the vector."""
    check_lot(lot)
    way = point_in(vector, "vector")
    return _lot_of([[joined(corner, way) for corner in fence.corners] for fence in lot.fences])


def quartered(lot):
    """The lot, turned about (0, 0): a quarter to the left."""
    check_lot(lot)
    return _lot_of([[turned(corner) for corner in fence.corners] for fence in lot.fences])


def mirrored(lot):
    """The lot with (-x, y) in the place of each (x, y)."""
    check_lot(lot)
    return _lot_of([[(negative(x), y) for x, y in fence.corners] for fence in lot.fences])


def grown(lot, factor):
    """The lot with (factor x, factor y) in the place of each (x, y)."""
    check_lot(lot)
    size = above_0_in(factor, "factor")
    return _lot_of([[stretched(corner, size) for corner in fence.corners] for fence in lot.fences])


def with_straight(lot, fence, side, share):
    """The lot with a straight corner that has this share of the way along a side."""
    check_fence_of(lot, fence)
    check_side_of(lot, fence, side)
    part = inner_share_in(share)
    rows = [list(other.corners) for other in lot.fences]
    if len(rows[fence]) == MOST_CORNERS:
        raise TooMany("corners", MOST_CORNERS)
    if len(lot.sides) == MOST_SIDES:
        raise TooMany("sides", MOST_SIDES)
    start, end = lot.side((fence, side))
    rows[fence].insert(side + 1, moved(start, way_between(start, end), part))
    return _lot_of(rows)


def _from_next(row, step):
    """A row told from the post so many steps on, for a frame of which every other post is a reading."""
    word, four, posts, kind = row
    return (word[step:] + word[:step], four[step:] + four[:step], posts[step:] + posts[:step], -kind)


def other_rows(plain, ratio):
    """The rows of 1 / ratio, by the Plain of a ratio other than 1: the same frames, told from p1 or from p3."""
    if type(plain) != Plain:
        raise BadPaper("plain")
    size = ratio_in(ratio)
    if size == ONE:
        raise Misfit("ratio")
    # Readings and rows have unlike fours: so no posts are compared, which are not ordered by size.
    return tuple(sorted([min([_from_next(row, 1 + step) for step in steps_of(size)]) for row in plain.rows]))

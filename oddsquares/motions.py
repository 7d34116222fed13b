"""Films in which one fence moves: it is carried or blown, or one of its sides is pushed."""

from oddsquares.arguments import above_0_in, number_in, point_in
from oddsquares.arithmetic import product_of, quotient
from oddsquares.errors import Misfit
from oddsquares.films import Film
from oddsquares.lot_arguments import check_fence_of, check_side_of
from oddsquares.vectors import cross_of, joined, moved, way_between


def film_of(lot, fence, row):
    """The film in which a fence goes on until it has this row of corners."""
    first = [other.corners for other in lot.fences]
    return Film(first, first[:fence] + [row] + first[fence + 1:])


def carried(lot, fence, vector):
    """The film in which a fence is carried by a vector."""
    check_fence_of(lot, fence)
    way = point_in(vector, "vector")
    return film_of(lot, fence, [joined(corner, way) for corner in lot.fences[fence].corners])


def blown_row(lot, fence, spot, share):
    """The corners of a fence that is blown, at the last moment."""
    check_fence_of(lot, fence)
    middle = point_in(spot, "spot")
    size = above_0_in(share, "share")
    return [moved(middle, way_between(middle, corner), size) for corner in lot.fences[fence].corners]


def blown(lot, fence, spot, share):
    """The film in which a fence is blown about a spot to a share."""
    return film_of(lot, fence, blown_row(lot, fence, spot, share))


def _pushed_ends(sides, side, share):
    """Both corners of a pushed side at the last moment; sides are those of its fence."""
    coming, way, leaving = [way_between(sides[number][0], sides[number][1])
                            for number in (side - 1, side, (side + 1) % len(sides))]
    out, along = cross_of(coming, way), cross_of(leaving, way)
    if out[0] == 0 or along[0] == 0:
        raise Misfit("side")
    start, end = sides[side]
    # Both ends go as far across the side's direction.
    other_share = quotient(product_of(share, out), along)
    return moved(start, coming, share), moved(end, leaving, other_share)


def pushed(lot, fence, side, share):
    """The film in which a side of a fence is pushed with a share."""
    check_fence_of(lot, fence)
    check_side_of(lot, fence, side)
    told = lot.fences[fence]
    start, end = _pushed_ends(told.sides, side, number_in(share, "share"))
    row = list(told.corners)
    row[side], row[(side + 1) % len(row)] = start, end
    return film_of(lot, fence, row)

"""The gap of a lot: the least distance of two of its sides that are not neighbours."""

from oddsquares.arithmetic import is_below, product_of, quotient
from oddsquares.lot_arguments import check_lot
from oddsquares.lots import are_neighbours
from oddsquares.papers import Paper
from oddsquares.vectors import cross_of, dot_of, moved, way_between


class Gap(Paper):
    """The square of the gap, two sides that have it, and points of them so far apart."""

    def __init__(self, squared, one, other, here, there):
        super().__init__("gap", squared, one, other, here, there)
        self.squared, self.one, self.other, self.here, self.there = self.parts


def _squared(way):
    """The square of the length of a vector."""
    return dot_of(way, way)


def _nearest(point, side):
    """The pair of the squared distance of a point from a side, and the point of the side so far from it."""
    way = way_between(side[0], side[1])
    told = way_between(side[0], point)
    along = dot_of(way, told)
    if along[0] <= 0:
        return (_squared(told), side[0])
    whole = _squared(way)
    if not is_below(along, whole):
        return (_squared(way_between(side[1], point)), side[1])
    apart = cross_of(way, told)
    return (quotient(product_of(apart, apart), whole), moved(side[0], way, quotient(along, whole)))


def _side_of_corner(lot, fence, corner, at):
    """A side at a corner of a fence that is not the side at, nor its neighbour; or None."""
    for side in (corner, (corner - 1) % len(lot.fences[fence])):
        if not are_neighbours(lot, (fence, side), at):
            return (fence, side)
    return None


def _ordered(found):
    """The Gap of (squared, side of the corner, corner, other side, its point), the lesser side first."""
    square, one, here, other, there = found
    if one < other:
        return Gap(square, one, other, here, there)
    return Gap(square, other, one, there, here)


def gap(lot):
    """The Gap of a lot, or None if all two sides are neighbours.

    As sides that are not neighbours have no point in common, the gap is the distance of a corner from a side.
    """
    check_lot(lot)
    found = None
    for at in lot.sides:
        side = lot.side(at)
        for fence, corner in lot.sides:
            one = _side_of_corner(lot, fence, corner, at)
            if one is None:
                continue
            here = lot.fences[fence].corners[corner]
            square, there = _nearest(here, side)
            if found is None or is_below(square, found[0]):
                found = (square, one, here, at, there)
    if found is None:
        return None
    return _ordered(found)

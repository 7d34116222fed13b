"""Lots whose corners are moved by a little, so that they are plain."""

from oddsquares.arguments import above_0_in, ratio_in
from oddsquares.arithmetic import lowest, product_of
from oddsquares.checks import are_points, is_row
from oddsquares.errors import BadPoint, NoFence, NoLot, TooMany
from oddsquares.fences import Fence
from oddsquares.judged import MOST_SIDES, judged
from oddsquares.lot_arguments import check_lot
from oddsquares.lots import Lot
from oddsquares.vectors import joined, point_of

LAST_TRY = 20


def _moves_in(lot, moves):
    """For each fence a vector for each of its corners, with pairs as their numbers."""
    if not is_row(moves) or len(moves) != len(lot.fences):
        raise BadPoint("moves")
    if not all([are_points(row, len(fence), len(fence)) for row, fence in zip(moves, lot.fences)]):
        raise BadPoint("moves")
    return [[point_of(vector) for vector in row] for row in moves]


def with_corners(lot, moves):
    """The lot whose corners are moved by these vectors."""
    check_lot(lot)
    rows = zip(lot.fences, _moves_in(lot, moves))
    return Lot([Fence([joined(corner, way) for corner, way in zip(fence.corners, row)]) for fence, row in rows])


def _part(number, place):
    """u(place) of the try with this number."""
    rest = (number * (7 * place * place + 13 * place) + 29 * number * number) % 101
    return lowest(rest - 50, 101 << number)


def _moves(lot, number, span):
    """The moves of the try with this number, which is not 0."""
    moves = [[] for fence in lot.fences]
    # As many sides as corners, in the same order.
    for place, (fence, _) in enumerate(lot.sides):
        way = [product_of(span, _part(number, 2 * place + axis)) for axis in (0, 1)]
        moves[fence].append(way)
    return moves


def _tried(lot, number, span):
    """The lot that the try with this number leaves, or None."""
    if number == 0:
        return lot
    try:
        return with_corners(lot, _moves(lot, number, span))
    except (NoFence, NoLot):
        return None


def nudged(lot, ratio, span):
    """The lot of the first try that leaves a lot that is plain for the ratio, or None."""
    check_lot(lot)
    size = ratio_in(ratio)
    wide = above_0_in(span, "span")
    if len(lot.sides) > MOST_SIDES:
        raise TooMany("sides", MOST_SIDES)
    for number in range(LAST_TRY + 1):
        moved = _tried(lot, number, wide)
        if moved is not None and judged(moved, size):
            return moved
    return None

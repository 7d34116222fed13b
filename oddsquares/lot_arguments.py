"""What is passed as a lot, a fence of it or its sides: looked at, or the error that is told for it."""

from oddsquares.checks import is_row, is_within
from oddsquares.errors import BadLot, BadNumber, BadSides
from oddsquares.lots import Lot, is_side


def check_lot(lot):
    """BadLot("lot") for what is no lot."""
    if not isinstance(lot, Lot):
        raise BadLot("lot")


def check_fence_of(lot, fence):
    """BadLot("lot") for what is no lot, BadNumber("fence") for the number of no fence of it."""
    check_lot(lot)
    if not is_within(fence, 0, len(lot.fences) - 1):
        raise BadNumber("fence")


def check_side_of(lot, fence, side):
    """BadNumber("side") for the number of no side of a fence of the lot."""
    if not is_within(side, 0, len(lot.fences[fence]) - 1):
        raise BadNumber("side")


def four_in(lot, four):
    """The tuple of four sides of a lot: BadSides("four") for what is no list of four."""
    if not is_row(four) or len(four) != 4:
        raise BadSides("four")
    if not all([is_side(lot, at) for at in four]):
        raise BadSides("four")
    return tuple([tuple(at) for at in four])

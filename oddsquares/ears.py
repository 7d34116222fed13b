"""Ears: corners that can be cut off."""

from oddsquares.checks import is_row, is_within
from oddsquares.errors import BadEars, BadNumber, Misfit
from oddsquares.fences import FEWEST_CORNERS, Fence
from oddsquares.lot_arguments import check_fence_of
from oddsquares.lots import Lot
from oddsquares.segments import bend


def _is_in_triangle(point, first, second, third):
    """Whether a point is in the closed triangle of three points that are told left-hand round."""
    return bend(first, second, point) >= 0 and bend(second, third, point) >= 0 and bend(third, first, point) >= 0


def _is_ear(corners, corner, others):
    """Whether a corner of a row of corners is an ear; others are the corners of the other fences."""
    many = len(corners)
    if many <= FEWEST_CORNERS:
        return False
    ahead, behind = (corner - 1) % many, (corner + 1) % many
    first, second, third = corners[ahead], corners[corner], corners[behind]
    if bend(first, second, third) <= 0:
        return False
    own = [corners[number] for number in range(many) if number not in (ahead, corner, behind)]
    return not any([_is_in_triangle(point, first, second, third) for point in own + others])


def _is_told_ear(corners, corner, others):
    """Whether any value is the number of an ear of a row of corners."""
    return is_within(corner, 0, len(corners) - 1) and _is_ear(corners, corner, others)


def _others(lot, fence):
    """The corners of all fences of a lot but this one."""
    return [corner for number, other in enumerate(lot.fences) if number != fence for corner in other.corners]


def _without(corners, corner):
    """The row of corners behind a cut: in the place of corner 0 comes the last one."""
    if corner == 0:
        return corners[-1:] + corners[1:-1]
    return corners[:corner] + corners[corner + 1:]


def _least_ear(corners, others):
    """The least ear of a row of corners, or None."""
    for corner in range(len(corners)):
        if _is_ear(corners, corner, others):
            return corner
    return None


def is_ear(lot, fence, corner):
    """Whether a corner of a fence is an ear."""
    check_fence_of(lot, fence)
    corners = lot.fences[fence].corners
    if not is_within(corner, 0, len(corners) - 1):
        raise BadNumber("corner")
    return _is_ear(corners, corner, _others(lot, fence))


def ears(lot, fence):
    """The numbers of the ears of a fence, ascending."""
    check_fence_of(lot, fence)
    corners = lot.fences[fence].corners
    others = _others(lot, fence)
    return tuple([corner for corner in range(len(corners)) if _is_ear(corners, corner, others)])


def check_ear_of(lot, fence, corner):
    """What cut raises for what is no ear of the fence."""
    check_fence_of(lot, fence)
    if not _is_told_ear(lot.fences[fence].corners, corner, _others(lot, fence)):
        raise BadEars("corner")


def cut(lot, fence, corner):
    """The lot in which this ear is cut."""
    check_ear_of(lot, fence, corner)
    shorter = Fence(_without(lot.fences[fence].corners, corner))
    return Lot(lot.fences[:fence] + (shorter,) + lot.fences[fence + 1:])


def are_cuts(lot, fence, cuts):
    """Whether any value is a list of one or more cuts of a fence, each an ear where the ones ahead of it are cut."""
    if not is_row(cuts):
        return False
    corners = lot.fences[fence].corners
    others = _others(lot, fence)
    for corner in cuts:
        if not _is_told_ear(corners, corner, others):
            return False
        corners = _without(corners, corner)
    return len(cuts) > 0


def home_row(lot, fence):
    """The corners that are cut if the least ear is cut again and again, until there are three corners."""
    check_fence_of(lot, fence)
    corners = lot.fences[fence].corners
    others = _others(lot, fence)
    row = []
    while len(corners) > FEWEST_CORNERS:
        corner = _least_ear(corners, others)
        if corner is None:
            raise Misfit("fence")
        row.append(corner)
        corners = _without(corners, corner)
    return tuple(row)

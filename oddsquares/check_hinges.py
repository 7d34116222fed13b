"""Whether values are right papers of hinges."""

from oddsquares.hinges import Loose, image_of, judged_hinges, spot_of, turn_in
from oddsquares.sameness import is_same_paper, is_told_point
from oddsquares.segments import lies_on


def _is_right_loose(lot, spot, turn, loose):
    """Whether a Loose tells a hinge, at the spot for the turn, that is a corner or the image of which is one."""
    if not is_told_point(loose.q) or not is_told_point(loose.image):
        return False
    if loose.q == spot or loose.image != image_of(loose.q, spot, turn):
        return False
    sides = [lot.side(at) for at in lot.sides]
    if not all([any([lies_on(point, side) for side in sides]) for point in loose.parts]):
        return False
    return any([corner in loose.parts for fence in lot.fences for corner in fence.corners])


def shows_hinges(lot, at, share, turn, value):
    """Whether any value is the Hinged that is told, or a right Loose where the hinges are loose."""
    right = judged_hinges(lot, at, share, turn)
    if isinstance(right, Loose) and type(value) is type(right):
        return _is_right_loose(lot, spot_of(lot, at, share), turn_in(turn), value)
    return is_same_paper(value, right)

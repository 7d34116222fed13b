"""The texts of lots: a line for each fence."""

from oddsquares.errors import BadLine, BadText
from oddsquares.fences import Fence
from oddsquares.lot_arguments import check_lot
from oddsquares.lots import Lot
from oddsquares.points import parsed_point, point_text

MOST_SIGNS = 20000


def lot_text(lot):
    """A line for each fence, its corners as points with single blanks between."""
    check_lot(lot)
    return "\n".join([" ".join([point_text(corner) for corner in fence.corners]) for fence in lot.fences])


def _read_line(line, number):
    """The points of a line."""
    points = []
    for place, word in enumerate(line.split(" ")):
        point = parsed_point(word)
        if point is None:
            raise BadLine(number, place)
        points.append(point)
    return points


def read_lot(text):
    """The lot of which this is the text."""
    if not isinstance(text, str) or len(text) > MOST_SIGNS:
        raise BadText("text")
    # All words are read before the first fence is made: BadLine comes ahead of what Fence raises.
    rows = [_read_line(line, number) for number, line in enumerate(text.split("\n"))]
    return Lot([Fence(row) for row in rows])

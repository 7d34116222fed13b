"""Films that cut off ears."""

from oddsquares.ears import check_ear_of
from oddsquares.errors import TooMany
from oddsquares.fences import MOST_CORNERS
from oddsquares.films import Film
from oddsquares.lots import MOST_SIDES


def ear_film(lot, fence, corner):
    """The film that cuts this ear: its corner, told twice, goes to the corner ahead of it and to the one behind it."""
    check_ear_of(lot, fence, corner)
    corners = lot.fences[fence].corners
    if len(corners) == MOST_CORNERS:
        raise TooMany("corners", MOST_CORNERS)
    if len(lot.sides) == MOST_SIDES:
        raise TooMany("sides", MOST_SIDES)
    ahead, behind = corners[corner - 1], corners[(corner + 1) % len(corners)]
    rows = [other.corners for other in lot.fences]
    first, last = list(rows), list(rows)
    first[fence] = corners[:corner + 1] + corners[corner:]
    last[fence] = corners[:corner] + (ahead, behind) + corners[corner + 1:]
    return Film(first, last)

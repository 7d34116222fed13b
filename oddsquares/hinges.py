"""Hinges: triangles of one shape with a corner at a spot of a lot and the two others on the lot."""

from oddsquares.arguments import inner_share_in
from oddsquares.arithmetic import negative, quotient, sign
from oddsquares.checks import is_integer, is_pair, is_point, is_row, is_within
from oddsquares.errors import BadNumber, BadPaper, TooMany
from oddsquares.lot_arguments import check_lot
from oddsquares.papers import Denial, Paper
from oddsquares.segments import common_point
from oddsquares.vectors import cross_of, dot_of, joined, moved, point_of, stretched, turned, way_between

MOST_SIDES = 40


class Hinged(Paper):
    """The hinges are not loose; these are the rows of all of them."""

    def __init__(self, rows):
        super().__init__("hinged", rows)
        self.rows = self.parts[0]


class Loose(Denial):
    """The hinges are loose: this hinge is a corner, or its image is one."""

    def __init__(self, q, image):
        super().__init__("loose", q, image)
        self.q, self.image = self.parts


def spot_of(lot, at, share):
    """The point that has this share of the way along a side."""
    check_lot(lot)
    start, end = lot.side(at)
    return moved(start, way_between(start, end), inner_share_in(share))


def turn_in(turn):
    """A turn with pairs as its numbers: BadNumber("turn") for no two numbers of which the second one is not 0."""
    if not is_point(turn) or point_of(turn)[1][0] == 0:
        raise BadNumber("turn")
    return point_of(turn)


def _image_way(way, turn):
    """The image of a vector."""
    return joined(stretched(way, turn[0]), stretched(turned(way), turn[1]))


def image_of(point, spot, turn):
    """The image of a point."""
    return joined(spot, _image_way(way_between(spot, point), turn))


def _back(turn):
    """The turn by which images become what they are the images of."""
    size = dot_of(turn, turn)
    return (quotient(turn[0], size), negative(quotient(turn[1], size)))


def _sides_of(lot):
    """All sides of a lot, each as (its pair (fence, side), its points)."""
    return [(at, lot.side(at)) for at in lot.sides]


def _hinges(lot, spot, turn):
    """For each hinge (side of q, side of the image, q, image); those at corners are told for each side of the corner.

    If an image of a side has a stretch in common with a side one end of the stretch is told: it is never the spot,
    which is no corner, nor the image of one.
    """
    images = [(at, (image_of(start, spot, turn), image_of(end, spot, turn))) for at, (start, end) in _sides_of(lot)]
    back = _back(turn)
    found = []
    for one, turned_side in images:
        for other, side in _sides_of(lot):
            image = common_point(turned_side, side)
            if image is not None and image != spot:
                found.append((one, other, image_of(image, spot, back), image))
    return found


def _row(lot, hinge, turn):
    """The row of a hinge."""
    one, other, q, image = hinge
    ways = [way_between(start, end) for start, end in (lot.side(one), lot.side(other))]
    kind = sign(cross_of(_image_way(ways[0], turn), ways[1])[0])
    return ((one[0], other[0]), (one, other), q, image, kind)


def judged_hinges(lot, at, share, turn):
    """The Hinged of the hinges at a spot of the lot for a turn, or a Loose."""
    spot = spot_of(lot, at, share)
    told = turn_in(turn)
    if len(lot.sides) > MOST_SIDES:
        raise TooMany("sides", MOST_SIDES)
    hinges = _hinges(lot, spot, told)
    corners = {corner: True for fence in lot.fences for corner in fence.corners}
    for _, _, q, image in hinges:
        if q in corners or image in corners:
            return Loose(q, image)
    # Two hinges have unlike pairs of sides: so no points are compared, which are not ordered by size.
    return Hinged(sorted([_row(lot, hinge, told) for hinge in hinges]))


def _is_row(row):
    """Whether any value is a row of five, a word of two fences first and a kind last."""
    if not is_row(row) or len(row) != 5:
        return False
    word, kind = row[0], row[4]
    if not is_pair(word) or not is_integer(kind):
        return False
    return is_within(word[0], 0, None) and is_within(word[1], 0, None) and kind in (1, -1)


def hinge_sums(hinged):
    """For each word of the rows of a Hinged (word, how many rows have it, the sum of their kinds), ascending."""
    if type(hinged) != Hinged or not is_row(hinged.rows) or not all([_is_row(row) for row in hinged.rows]):
        raise BadPaper("hinged")
    kinds = {}
    for row in hinged.rows:
        kinds.setdefault(row[0], []).append(row[4])
    return tuple([(word, len(kinds[word]), sum(kinds[word])) for word in sorted(kinds)])

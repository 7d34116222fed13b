"""Which fours may have frames, told by boxes around their sides. What is passed is not looked at: the callers know it.

Sides are told as for Lines. A box is a row (least x, greatest x, least y, greatest y) of integers on a grid, rounded
outward. The grid is as fine for every lot, so the integers are small: they rule out most fours quickly.
"""

from oddsquares.arithmetic import whole

FINE = 4294967296


def _coordinates(sides):
    """For each side all its x at all its moments, and for each side all its y: integers above one under."""
    rows = [[point[axis] for ends in side for point in ends] for axis in (0, 1) for side in sides]
    tops = whole([number for row in rows for number in row])[0]
    many = len(rows[0])
    told = [tops[many * number:many * (number + 1)] for number in range(len(rows))]
    return told[:len(sides)], told[len(sides):]


def _rounded(least, greatest, under):
    """The greatest integer not above least / under, and the least one not below greatest / under."""
    return (least // under, -(-greatest // under))


def _boxes(sides):
    """For each side a box around it at all its moments."""
    columns = _coordinates(sides)
    lows = [min([min(row) for row in rows]) for rows in columns]
    size = max([max([max(row) for row in rows]) - low for rows, low in zip(columns, lows)])
    edges = [[_rounded(FINE * (min(row) - low), FINE * (max(row) - low), size) for row in rows]
             for rows, low in zip(columns, lows)]
    return [x_edges + y_edges for x_edges, y_edges in zip(edges[0], edges[1])]


def _sum_box(one, other):
    """A box around all sums of a point in one box and a point in another one."""
    return tuple([first + second for first, second in zip(one, other)])


def _difference_box(one, other):
    """A box around all vectors from a point in one box to a point in another one."""
    return (other[0] - one[1], other[1] - one[0], other[2] - one[3], other[3] - one[2])


def _turned_box(box, ratio):
    """A box around the vectors from p1 to p3 of all frames of a ratio whose vectors from p0 to p2 are in a box.

    With p0 at 0 and p1 at the complex number v these vectors are (i ratio - 1) v and (i ratio + 1) v.
    """
    up, along = ratio
    same, across, under = up * up - along * along, 2 * up * along, up * up + along * along
    x, y = [(same * box[place], same * box[place + 1]) for place in (0, 2)]
    turned_x, turned_y = [(across * box[place], across * box[place + 1]) for place in (0, 2)]
    return (_rounded(min(x) - max(turned_y), max(x) - min(turned_y), under)
            + _rounded(min(y) + min(turned_x), max(y) + max(turned_x), under))


def _meet(one, other):
    """Whether two rows of least and greatest numbers have in each place a number in common."""
    return (one[0] <= other[1] and other[0] <= one[1] and one[2] <= other[3] and other[2] <= one[3]
            and one[4] <= other[5] and other[4] <= one[5] and one[6] <= other[7] and other[6] <= one[7])


def likely_fours(sides, ratio):
    """Rows (a, b, c, d) of four numbers of sides: all on which a frame of the ratio stands at any moment, and more.

    The posts p0 and p2 of a frame have the middle that p1 and p3 have, and tell the vector from p1 to p3.
    """
    boxes = _boxes(sides)
    numbers = range(len(sides))
    fronts = [(a, c, _sum_box(boxes[a], boxes[c]) + _turned_box(_difference_box(boxes[a], boxes[c]), ratio))
              for a in numbers for c in numbers]
    backs = [(b, d, _sum_box(boxes[b], boxes[d]) + _difference_box(boxes[b], boxes[d]))
             for b in numbers for d in numbers]
    return [(a, b, c, d) for a, c, one in fronts for b, d, other in backs if _meet(one, other)]

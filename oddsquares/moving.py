"""What moves: rows of points at 0 and at 1, a pair of rows of as many. A moving side is such a pair of sides.

What is passed is not looked at: the callers know it.
"""

from oddsquares.vectors import joined, moved, way_between


def at_moment(rows, moment):
    """The points at a moment."""
    return tuple([moved(start, way_between(start, end), moment) for start, end in zip(rows[0], rows[1])])


def direction_of(side):
    """The direction of a moving side: the sum of its vectors at 0 and at 1."""
    return joined(way_between(side[0][0], side[0][1]), way_between(side[1][0], side[1][1]))

"""Pictures of lots: which cells of their box have a post, a corner or a point of a side.

Places are told on a grid: by how many cells they are to the right of the lower left corner of the box, and above it.
"""

from oddsquares.arithmetic import difference, is_below, product_of, quotient
from oddsquares.checks import are_points, is_row, is_within
from oddsquares.errors import BadNumber, BadPoint
from oddsquares.lot_arguments import check_lot
from oddsquares.vectors import moved, point_of, way_between

MOST_CELLS = 60
LETTERS = "abcdefghijklmnopqrstuvwxyz"
CORNER = "o"
SIDE = "."
BLANK = " "


def _lesser(one, other):
    """The lesser one of two numbers."""
    return other if is_below(other, one) else one


def _greater(one, other):
    """The greater one of two numbers."""
    return other if is_below(one, other) else one


def _box_of(lot):
    """As box_of, for a lot."""
    low = high = lot.fences[0].corners[0]
    for fence in lot.fences:
        for x, y in fence.corners:
            low = (_lesser(low[0], x), _lesser(low[1], y))
            high = (_greater(high[0], x), _greater(high[1], y))
    return (low, high)


def box_of(lot):
    """The lower left and the upper right corner of the least box that holds all corners."""
    check_lot(lot)
    return _box_of(lot)


def _frames_in(frames):
    """The lists of four points, with pairs as their numbers."""
    if not is_row(frames) or len(frames) > len(LETTERS) or not all([are_points(posts, 4, 4) for posts in frames]):
        raise BadPoint("frames")
    return [[point_of(post) for post in posts] for posts in frames]


def _check_cells(many, part):
    """BadNumber(part) for no integer from 1 to 60."""
    if not is_within(many, 1, MOST_CELLS):
        raise BadNumber(part)


def _steps(low, high, many):
    """The numbers of the cells, of so many in a row, that hold a place from low to high."""
    first = -(-low[0] // low[1]) - 1
    last = high[0] // high[1]
    return list(range(max(first, 0), min(last, many - 1) + 1))


class Grid:
    """The cells of the box of a lot, and the sign in each that has one: at (column, row), row 0 the lowest."""

    def __init__(self, lot, wide, high):
        self.corner, end = _box_of(lot)
        self.wide = wide
        self.high = high
        width, height = way_between(self.corner, end)
        self.scales = (quotient((wide, 1), width), quotient((high, 1), height))
        self.signs = {}

    def place(self, point):
        """Where a point is on the grid."""
        way = way_between(self.corner, point)
        return (product_of(way[0], self.scales[0]), product_of(way[1], self.scales[1]))

    def mark_point(self, point, sign):
        """The sign in each cell that holds a point."""
        x, y = self.place(point)
        for row in _steps(y, y, self.high):
            for column in _steps(x, x, self.wide):
                self.signs[(column, row)] = sign

    def mark_side(self, side, sign):
        """The sign in each cell that holds a point of a side."""
        start, end = self.place(side[0]), self.place(side[1])
        if is_below(end[1], start[1]):
            start, end = end, start
        for row in _steps(start[1], end[1], self.high):
            first, last = _across(start, end, row)
            for column in _steps(_lesser(first, last), _greater(first, last), self.wide):
                self.signs[(column, row)] = sign

    def lines(self):
        """The signs of all cells, a string for each row, the upper ones first."""
        return tuple(["".join([self.signs.get((column, row), BLANK) for column in range(self.wide)])
                      for row in range(self.high - 1, -1, -1)])


def _across(start, end, row):
    """How far to the right the ends are of the part in a row of a side that leads upward, or level."""
    if start[1] == end[1]:
        return (start[0], end[0])
    way = way_between(start, end)
    ends = (_greater(start[1], (row, 1)), _lesser(end[1], (row + 1, 1)))
    first, last = [moved(start, way, quotient(difference(height, start[1]), way[1])) for height in ends]
    return (first[0], last[0])


def picture(lot, frames, wide, high):
    """The cells of the box of a lot as strings, the upper ones first."""
    check_lot(lot)
    told = _frames_in(frames)
    _check_cells(wide, "wide")
    _check_cells(high, "high")
    grid = Grid(lot, wide, high)
    # What comes ahead of the others in a cell is marked behind them.
    for fence in lot.fences:
        for side in fence.sides:
            grid.mark_side(side, SIDE)
    for fence in lot.fences:
        for corner in fence.corners:
            grid.mark_point(corner, CORNER)
    for posts, letter in reversed(list(zip(told, LETTERS))):
        for post in posts:
            grid.mark_point(post, letter)
    return grid.lines()

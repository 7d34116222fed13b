"""Lots: fences apart from one another, beside or within each other."""

from oddsquares.checks import is_pair, is_row, is_within
from oddsquares.errors import BadLot, BadNumber, BadSides, NoLot, TooMany
from oddsquares.fences import Fence, are_next
from oddsquares.papers import Denial, Paper
from oddsquares.segments import common_point, is_around

MOST_FENCES = 6
MOST_SIDES = 60


class Apart(Paper):
    """No two of the fences have a point in common."""

    def __init__(self):
        super().__init__("apart")


class Cross(Denial):
    """Two sides of two fences have a point in common."""

    def __init__(self, one, other, point):
        super().__init__("cross", one, other, point)
        self.one, self.other, self.point = self.parts


def _fences_in(fences):
    """The tuple of 1 to 6 fences."""
    if not is_row(fences) or not is_within(len(fences), 1, MOST_FENCES):
        raise BadLot("fences")
    if not all([isinstance(fence, Fence) for fence in fences]):
        raise BadLot("fences")
    return tuple(fences)


def _numbered_sides(fences):
    """All pairs (fence, side), ascending."""
    return tuple([(number, side) for number, fence in enumerate(fences) for side in range(len(fence))])


def judged_fences(fences):
    """The Cross of the least pair of sides of two fences that have a point in common, or Apart()."""
    told = _fences_in(fences)
    numbered = _numbered_sides(told)
    for one in numbered:
        side = told[one[0]].sides[one[1]]
        for other in numbered:
            if other[0] <= one[0]:
                continue
            point = common_point(side, told[other[0]].sides[other[1]])
            if point is not None:
                return Cross(one, other, point)
    return Apart()


class Lot:
    """A lot; its fences are numbered from 0, its sides are the pairs (fence, side)."""

    def __init__(self, fences):
        self.fences = _fences_in(fences)
        self.sides = _numbered_sides(self.fences)
        why = judged_fences(self.fences)
        if not why:
            raise NoLot(why)
        if len(self.sides) > MOST_SIDES:
            raise TooMany("sides", MOST_SIDES)

    def side(self, at):
        """The pair of the points from which and to which one of the sides leads."""
        if not is_side(self, at):
            raise BadSides("at")
        return self.fences[at[0]].sides[at[1]]

    def within(self, fence):
        """The numbers of the fences that are within this one, ascending."""
        if not is_within(fence, 0, len(self.fences) - 1):
            raise BadNumber("fence")
        return tuple([number for number in range(len(self.fences)) if _is_inside(self, number, fence)])

    def innermost(self, numbers):
        """The numbers of those of the told fences within which none of the told ones is, ascending."""
        told = _numbers_in(self, numbers)
        return tuple([outer for outer in told if not any([_is_inside(self, inner, outer) for inner in told])])

    def only(self, numbers):
        """The lot of the told fences, in the order of this lot."""
        return Lot([self.fences[number] for number in _numbers_in(self, numbers)])

    def __len__(self):
        return len(self.fences)

    def __eq__(self, other):
        return isinstance(other, Lot) and self.fences == other.fences


def is_side(lot, at):
    """Whether any value is one of the sides of a lot, told as a pair (fence, side)."""
    if not is_pair(at) or not is_within(at[0], 0, len(lot.fences) - 1):
        return False
    return is_within(at[1], 0, len(lot.fences[at[0]]) - 1)


def are_neighbours(lot, one, other):
    """Whether two sides of a lot are neighbours, or the same one."""
    return one[0] == other[0] and are_next(one[1], other[1], len(lot.fences[one[0]]))


def _is_inside(lot, inner, outer):
    """Whether a fence of a lot is within another one: as they are apart, one corner tells."""
    return inner != outer and is_around(lot.fences[outer].sides, lot.fences[inner].corners[0])


def _numbers_in(lot, numbers):
    """The told numbers of fences, ascending."""
    if not is_row(numbers) or len(numbers) == 0:
        raise BadNumber("numbers")
    if not all([is_within(number, 0, len(lot.fences) - 1) for number in numbers]):
        raise BadNumber("numbers")
    if len(set(numbers)) < len(numbers):
        raise BadNumber("numbers")
    return sorted(numbers)

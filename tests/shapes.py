"""Shapes for the tests, and what they are told to be, worked out with Python's own fractions in another way."""

import math
import random
from fractions import Fraction

from tests.values import fractions_of

TRI = ((0, 0), (4, 0), (1, 3))
KITE = ((0, 0), (4, 0), (3, 2), (1, 3))
DENT = ((0, 0), (5, 0), (2, 2), (1, 6))
STRAIGHT = ((0, 0), (2, 0), (4, 0), (1, 3))


def minus(one, other):
    return (one[0] - other[0], one[1] - other[1])


def cross(one, other):
    return one[0] * other[1] - one[1] * other[0]


def dot(one, other):
    return one[0] * other[0] + one[1] * other[1]


def on_side(point, side):
    """Whether the point of fractions lies on the side: its way from one end is a share of the side's vector."""
    way, told = minus(side[1], side[0]), minus(point, side[0])
    return cross(way, told) == 0 and 0 <= dot(way, told) <= dot(way, way)


def do_meet(one, other):
    """Whether two sides with length have a point in common: an end of one on the other, or a point within both."""
    if any(on_side(end, other) for end in one) or any(on_side(end, one) for end in other):
        return True
    way, other_way = minus(one[1], one[0]), minus(other[1], other[0])
    if cross(way, other_way) == 0:
        return False
    told = minus(other[0], one[0])
    shares = (Fraction(cross(told, other_way), cross(way, other_way)), Fraction(cross(told, way), cross(way, other_way)))
    return all(0 <= share <= 1 for share in shares)


def sides_of(corners):
    points = [fractions_of(corner) for corner in corners]
    return [(points[k], points[(k + 1) % len(points)]) for k in range(len(points))]


def first_denial(corners):
    """The word and the numbers of the first denial that fits, or None."""
    sides = sides_of(corners)
    many = len(sides)
    ways = [minus(end, start) for start, end in sides]
    for k in range(many):
        if ways[k] == (0, 0):
            return ("short", k)
    for k in range(many):
        if cross(ways[k - 1], ways[k]) == 0 and dot(ways[k - 1], ways[k]) < 0:
            return ("back", k)
    for one in range(many):
        for other in range(one + 2, many):
            if (one, other) != (0, many - 1) and do_meet(sides[one], sides[other]):
                return ("meets", one, other)
    return None


def is_inside(corners, point):
    """Whether a point on no side is inside, by the angles under which the sides are seen from it."""
    x, y = (float(part) for part in point)
    total = 0.0
    for start, end in sides_of(corners):
        first = math.atan2(float(start[1]) - y, float(start[0]) - x)
        last = math.atan2(float(end[1]) - y, float(end[0]) - x)
        total += (last - first + math.pi) % (2 * math.pi) - math.pi
    return abs(total) > 1


def star(many, size, middle=(0, 0), seed=1):
    """Corners round the middle, left-hand round, between half its size and its size away, with long fractions."""
    chance = random.Random(seed)
    corners = []
    for k in range(many):
        far = size * (0.5 + 0.5 * chance.random())
        angle = 2 * math.pi * k / many
        corners.append(tuple(long_number(middle[axis] + far * part, chance)
                             for axis, part in enumerate((math.cos(angle), math.sin(angle)))))
    return corners


def long_number(size, chance):
    """A number near the size, with top and under of up to 30 digits."""
    under = chance.randrange(10 ** 23, 10 ** 24)
    told = Fraction(int(size * 1000), 1000) + Fraction(chance.randrange(under), 1000 * under)
    return (told.numerator, told.denominator)


def comb(teeth):
    """A fence of 4 teeth corners that bends right, too: teeth upward from a level base."""
    corners = [(2 * teeth, 0)]
    for k in range(teeth - 1, -1, -1):
        corners += [(2 * k + 1, 9), (2 * k + 1, 1)]
    return [(0, 0)] + corners


def cell(x, y, size=4):
    """The corners of a square with this lower left corner."""
    return ((x, y), (x + size, y), (x + size, y + size), (x, y + size))


def nested(many):
    """As many squares, each but the first within the one ahead of it."""
    return [cell(k, k, 20 - 2 * k) for k in range(many)]

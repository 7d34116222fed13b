import itertools
import unittest

from oddsquares.errors import BadLot
from oddsquares.fences import Fence
from oddsquares.gaps import gap
from oddsquares.lots import Lot
from tests.shapes import DENT, KITE, STRAIGHT, TRI, cell, comb, dot, minus, nested, on_side, sides_of, star
from tests.values import Raises, fractions_of, pair


def squared(point, side):
    """The squared distance of a point from a side."""
    way, told = minus(side[1], side[0]), minus(point, side[0])
    share = max(0, min(1, dot(way, told) / dot(way, way)))
    apart = (told[0] - share * way[0], told[1] - share * way[1])
    return dot(apart, apart)


def least(rows):
    """The least squared distance of two sides that are no neighbours, or None."""
    sides = [(number, k, len(row), side) for number, row in enumerate(rows) for k, side in enumerate(sides_of(row))]
    found = []
    for one, other in itertools.combinations(sides, 2):
        if one[0] == other[0] and (other[1] - one[1]) % one[2] in (1, one[2] - 1):
            continue
        found += [squared(end, other[3]) for end in one[3]] + [squared(end, one[3]) for end in other[3]]
    return min(found, default=None)


class GapTest(Raises, unittest.TestCase):
    def check_gap(self, rows):
        told = gap(Lot([Fence(row) for row in rows]))
        right = least(rows)
        if right is None:
            self.assertIsNone(told)
            return
        self.assertEqual((told.word, bool(told), told.squared), ("gap", True, pair(right)))
        self.assertLess(told.one, told.other)
        here, there = fractions_of(told.here), fractions_of(told.there)
        self.assertEqual(dot(minus(here, there), minus(here, there)), right)
        for point, (fence, side) in ((here, told.one), (there, told.other)):
            self.assertTrue(on_side(point, sides_of(rows[fence])[side]))
        if told.one[0] == told.other[0]:
            many = len(rows[told.one[0]])
            self.assertNotIn((told.other[1] - told.one[1]) % many, (0, 1, many - 1))
        self.assertEqual(told, gap(lot=Lot([Fence(row) for row in rows])))

    def test_one_fence(self):
        for row in (TRI, KITE, DENT, STRAIGHT, comb(4), cell(0, 0), star(12, 7)):
            self.check_gap([row])

    def test_several_fences(self):
        for rows in (nested(6), [cell(9 * k, k) for k in range(6)], [((-10, -10), (20, -9), (1, 25)), TRI],
                     [TRI, ((0, -7), (9, -7), (3, -2))], [TRI, ((9, 9), (12, 9), (10, (21, 2)))],
                     [((0, 0), (4, 0), (1, 3)), ((6, 2), (8, 2), (8, 4))], [star(9, 5), star(8, 5, (13, 2), 3)]):
            self.check_gap(rows)
            self.check_gap(rows[::-1])

    def test_within_both_sides(self):
        # The corner (2, 1) is nearest to a point within the slanting side from (4, 0) to (1, 3).
        self.check_gap([((0, 0), (4, 0), (1, 3)), ((3, 3), (9, 4), (4, 9))])
        told = gap(Lot([Fence(TRI), Fence([(3, 3), (9, 4), (4, 9)])]))
        self.assertEqual(told.parts, ((2, 1), (0, 1), (1, 0), ((2, 1), (2, 1)), ((3, 1), (3, 1))))

    def test_near_the_end_of_a_side(self):
        for x in ((1, 2), (1, 20), (39, 20), (-1, 20), 0, 2):
            self.check_gap([cell(0, 0, 2), ((x, -1), (-1, -3), (3, -3))])

    def test_three_corners_alone(self):
        self.assertIsNone(gap(Lot([Fence(TRI)])))

    def test_great_numbers(self):
        far = 10 ** 30 - 1
        self.check_gap([cell(far, -far), cell(far + 7, (-far * 3 + 1) // 3)])

    def test_errors(self):
        for bad in (None, True, 0, "", [], [Fence(TRI)], Fence(TRI), TRI, object()):
            self.check_part(BadLot, "lot", gap, bad)


if __name__ == "__main__":
    unittest.main()

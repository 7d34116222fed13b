import random
import unittest

from oddsquares.ears import cut, ears, home_row, is_ear
from oddsquares.errors import BadEars, BadLot, BadNumber, Misfit
from oddsquares.fences import Fence
from oddsquares.lots import Lot
from tests.shapes import DENT, KITE, STRAIGHT, TRI, cell, comb, cross, minus, on_side, star
from tests.values import NO_INTEGERS, Raises, fractions_of

RING = (((0, 0), (10, 0), (11, 10), (0, 11)), ((4, 4), (6, 5), (5, 6)))
NO_LOTS = (None, True, 0, "", [], [Fence(TRI)], Fence(TRI), TRI, object())


def lot_of(*rows):
    return Lot([Fence(row) for row in rows])


def told_ears(lot, fence):
    """The ears of a fence, by the definition, with Python's own fractions."""
    corners = [fractions_of(corner) for corner in lot.fences[fence].corners]
    every = [(number, k, fractions_of(corner)) for number, row in enumerate(lot.fences) for k, corner in enumerate(row.corners)]
    many = len(corners)
    found = []
    for k in range(many):
        first, second, third = corners[k - 1], corners[k], corners[(k + 1) % many]
        if many == 3 or cross(minus(second, first), minus(third, second)) <= 0:
            continue
        sides = ((first, second), (second, third), (third, first))
        own = {(fence, (k - 1) % many), (fence, k), (fence, (k + 1) % many)}
        rest = [point for number, at, point in every if (number, at) not in own]
        within = [all(cross(minus(end, start), minus(point, start)) > 0 for start, end in sides) for point in rest]
        on = [any(on_side(point, side) for side in sides) for point in rest]
        if not any(within) and not any(on):
            found.append(k)
    return tuple(found)


class EarsTest(Raises, unittest.TestCase):
    def check_ears(self, lot):
        for fence in range(len(lot)):
            told = told_ears(lot, fence)
            self.assertEqual(ears(lot, fence), told)
            for corner in range(len(lot.fences[fence])):
                self.assertIs(is_ear(lot, fence, corner), corner in told)

    def test_ears(self):
        for rows in ((TRI,), (KITE,), (DENT,), (STRAIGHT,), (comb(4),), RING, RING[::-1], (star(14, 9),), (cell(0, 0), cell(9, 0)),
                     (cell(0, 0, 9), cell(1, 1, 3), ((6, 6), (7, 6), (6, 7)))):
            self.check_ears(lot_of(*rows))

    def test_what_is_in_the_triangle(self):
        # A corner of the same fence on the third side of the triangle, and one within it.
        self.assertEqual(ears(lot_of([(0, 0), (4, 0), (2, 2), (0, 4)]), 0), (1, 3))
        self.assertIs(is_ear(lot_of([(0, 0), (4, 0), (1, 1), (0, 4)]), 0, 0), False)
        # A corner of another fence on the third side, just within, and just beyond.
        for place, told in (((2, 2), False), (((199, 100), 2), False), (((201, 100), 2), True)):
            lot = lot_of([(0, 0), (4, 0), (5, 5), (0, 4)], [place, (3, 3), (2, 3)])
            self.assertIs(is_ear(lot, 0, 0), told)

    def test_home_row(self):
        for rows in ((TRI,), (KITE,), (DENT,), (STRAIGHT,), (comb(6),), (star(40, 10),), (cell(0, 0), cell(9, 0))):
            lot = lot_of(*rows)
            row = home_row(lot, 0)
            self.assertEqual(len(row), len(rows[0]) - 3)
            for corner in row:
                self.assertEqual(corner, ears(lot, 0)[0])
                lot = cut(lot, 0, corner)
            self.assertEqual(len(lot.fences[0]), 3)
            self.assertEqual(lot.fences[1:], lot_of(*rows).fences[1:])

    def test_home_row_fails(self):
        self.check_part(Misfit, "fence", home_row, lot_of(*RING), 0)
        self.assertEqual(home_row(lot_of(*RING), 1), ())
        # An ear can be cut before none is left.
        lot = lot_of([(1, (-1, 100)), (10, 0), (11, 10), (0, 11), (0, 0)], RING[1])
        self.assertEqual(ears(lot, 0)[0], 0)
        self.assertEqual(cut(lot, 0, 0), lot_of(*RING))
        self.check_part(Misfit, "fence", home_row, lot, 0)

    def test_errors(self):
        lot = lot_of(KITE, cell(9, 9))
        for bad in NO_LOTS:
            for call, rest in ((is_ear, (None, None)), (ears, (None,)), (cut, (None, None)), (home_row, (None,))):
                self.check_part(BadLot, "lot", call, bad, *rest)
        for bad in NO_INTEGERS + (-1, 2):
            for call, rest in ((is_ear, (None,)), (ears, ()), (cut, (None,)), (home_row, ())):
                self.check_part(BadNumber, "fence", call, lot, bad, *rest)
        for bad in NO_INTEGERS + (-1, 4):
            self.check_part(BadNumber, "corner", is_ear, lot, 0, bad)
            self.check_part(BadEars, "corner", cut, lot, 0, bad)


class CutTest(Raises, unittest.TestCase):
    def test_cut(self):
        lot = lot_of(KITE, cell(9, 9))
        for corner, left in ((0, (3, 1, 2)), (1, (0, 2, 3)), (2, (0, 1, 3)), (3, (0, 1, 2))):
            told = cut(lot, 0, corner)
            self.assertEqual(told, lot_of([KITE[k] for k in left], cell(9, 9)))
            self.assertEqual(cut(lot=lot, fence=0, corner=corner), told)
        self.assertEqual(cut(lot, 1, 3), lot_of(KITE, cell(9, 9)[:3]))
        self.assertEqual(lot, lot_of(KITE, cell(9, 9)))

    def test_corner_0(self):
        five = [(0, 0), (2, 0), (4, 0), (3, 2), (1, 3)]
        told = cut(lot_of(five), 0, 0)
        self.assertEqual(told.fences[0], Fence([(1, 3), (2, 0), (4, 0), (3, 2)]))

    def test_behind_a_cut_is_a_lot(self):
        chance = random.Random(3)
        for seed in range(6):
            lot = lot_of(star(9, 9, seed=seed), star(5, 3, (30, 0), seed), cell(40, 40))
            while True:
                free = [(fence, corner) for fence in range(3) for corner in ears(lot, fence)]
                if not free:
                    break
                lot = cut(lot, *chance.choice(free))
            self.assertEqual([len(fence) for fence in lot.fences], [3, 3, 3])

    def test_no_ear(self):
        for rows, corner in (((DENT,), 0), ((DENT,), 2), ((STRAIGHT,), 1), ((STRAIGHT,), 3), ((TRI,), 0), (RING, 0)):
            self.check_part(BadEars, "corner", cut, lot_of(*rows), 0, corner)


if __name__ == "__main__":
    unittest.main()

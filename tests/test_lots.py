import itertools
import random
import unittest
from fractions import Fraction

from oddsquares.errors import BadLot, BadNumber, BadSides, NoLot, TooMany
from oddsquares.fences import Fence
from oddsquares.lots import Apart, Cross, Lot, judged_fences
from tests.shapes import KITE, TRI, cell, do_meet, nested, on_side, sides_of, star
from tests.values import NO_INTEGERS, Raises, fractions_of, pair

LARGE = ((-10, -10), (20, -9), (1, 25))
NO_FENCES = (None, True, 0, "", "abc", (), [], {}, object(), Fence(TRI), [Fence(TRI), None], [TRI], [Fence(TRI), TRI], [1],
             {0: Fence(TRI)}, [Fence(cell(9 * k, 0)) for k in range(7)], iter([Fence(TRI)]))


def first_cross(rows):
    """The least pair of sides of two fences that meet, or None."""
    sides = [((number, k), side) for number, row in enumerate(rows) for k, side in enumerate(sides_of(row))]
    for (one, side), (other, other_side) in itertools.combinations(sides, 2):
        if one[0] < other[0] and do_meet(side, other_side):
            return (one, other)
    return None


class JudgedTest(Raises, unittest.TestCase):
    def check_cross(self, rows):
        told = judged_fences([Fence(row) for row in rows])
        right = first_cross(rows)
        if right is None:
            self.assertEqual(told, Apart())
            self.assertIs(bool(told), True)
            return None
        self.assertIsInstance(told, Cross)
        self.assertEqual(told.parts[:2], right)
        self.assertIs(bool(told), False)
        for fence, side in right:
            self.assertTrue(on_side(fractions_of(told.point), sides_of(rows[fence])[side]))
        self.assertEqual(told, judged_fences(tuple(Fence(row) for row in rows)))
        return told

    def test_apart(self):
        for rows in ([TRI], [TRI, LARGE], [LARGE, TRI], nested(6), nested(6)[::-1], [cell(9 * k, 0) for k in range(6)],
                     [cell(0, 0), cell(9, 0), cell(-9, 0, 3), cell(1, 1, 2)]):
            self.assertIsNone(self.check_cross(rows))

    def test_cross(self):
        self.check_cross([TRI, TRI])
        self.check_cross([TRI, LARGE, TRI])
        self.check_cross([cell(0, 0), cell(4, 4)])
        self.check_cross([cell(0, 0), cell(4, 1)])
        self.check_cross([cell(0, 0), cell(2, -2)])
        self.check_cross([cell(20, 0), cell(0, 0), cell(2, 2), cell(21, 1)])
        self.check_cross([cell(0, 0), ((0, 2), (4, 2), (2, 3))])
        self.check_cross([cell(0, 0), ((1, 1), (2, 0), (3, 1))])
        self.check_cross([((0, 0), (10, 0), (5, 9)), ((2, 0), (3, 0), (3, -4)), ((4, 0), (6, 0), (5, 1))])

    def test_by_chance(self):
        chance = random.Random(12)
        seen = set()
        for run in range(400):
            rows = [cell(Fraction(chance.randrange(30), 2), Fraction(chance.randrange(30), 2), chance.randrange(1, 6))
                    for _ in range(chance.randrange(2, 5))]
            rows = [[tuple(pair(part) for part in corner) for corner in row] for row in rows]
            seen.add(self.check_cross(rows) is None)
        self.assertEqual(seen, {True, False})

    def test_errors(self):
        for bad in NO_FENCES:
            self.check_part(BadLot, "fences", judged_fences, bad)
            self.check_part(BadLot, "fences", Lot, bad)


class LotTest(Raises, unittest.TestCase):
    def test_attributes(self):
        fences = [Fence(LARGE), Fence(KITE), Fence(cell(30, 0))]
        lot = Lot(fences)
        fences.append(Fence(TRI))
        self.assertEqual(lot.fences, tuple(fences[:3]))
        self.assertEqual(lot.sides, ((0, 0), (0, 1), (0, 2), (1, 0), (1, 1), (1, 2), (1, 3), (2, 0), (2, 1), (2, 2), (2, 3)))
        self.assertEqual(len(lot), 3)
        self.assertEqual([type(lot.fences), type(lot.sides), type(lot.sides[0])], [tuple] * 3)

    def test_no_lot(self):
        with self.assertRaises(NoLot) as caught:
            Lot([Fence(TRI), Fence(cell(9, 9)), Fence(LARGE), Fence(KITE)])
        self.assertEqual(caught.exception.why, judged_fences([Fence(TRI), Fence(cell(9, 9)), Fence(LARGE), Fence(KITE)]))
        self.assertEqual(caught.exception.why.parts[:2], ((0, 0), (3, 0)))

    def test_sixty_sides(self):
        thirty = [Fence(star(many, 5, (20 * many, 0))) for many in (30, 31)]
        other = Fence(star(30, 5, (0, 40)))
        self.assertEqual(len(Lot([thirty[0], other]).sides), 60)
        self.check_raises(TooMany, {"what": "sides", "most": 60}, Lot, [thirty[1], other])
        meeting = [Fence(star(31, 5)), Fence(star(30, 5))]
        with self.assertRaises(NoLot) as caught:
            Lot(meeting)
        self.assertEqual(caught.exception.why, judged_fences(meeting))
        self.assertEqual(len(Lot([Fence(star(10, 5, (30 * k, 7 * k), k)) for k in range(6)]).sides), 60)

    def test_equality(self):
        lot = Lot([Fence(TRI), Fence(LARGE)])
        self.assertIs(lot == Lot(fences=(Fence(TRI), Fence(LARGE))), True)
        for other in (Lot([Fence(LARGE), Fence(TRI)]), Lot([Fence(TRI)]), lot.fences, None, Fence(TRI), Apart()):
            self.assertIs(lot == other, False)

    def test_side(self):
        lot = Lot([Fence(LARGE), Fence(KITE)])
        for fence, side in lot.sides:
            self.assertEqual(lot.side((fence, side)), lot.fences[fence].sides[side])
            self.assertEqual(lot.side(at=[fence, side]), lot.fences[fence].sides[side])
        for bad in (None, 0, True, "00", (), (0,), (0, 3), (1, 4), (2, 0), (-1, 0), (0, -1), (0, 0, 0), (True, 0), (0, False),
                    (0, None), ((0, 0), 0), (0, (1, 1)), {0: 0, 1: 1}, object(), (0.0, 0)):
            self.check_part(BadSides, "at", lot.side, bad)


class WithinTest(Raises, unittest.TestCase):
    def setUp(self):
        # 1 is within 3, 0 and 4 are within 1 beside each other; 2 stands alone.
        self.lot = Lot([Fence(row) for row in (cell(3, 3, 2), cell(2, 2, 9), cell(40, 0), cell(0, 0, 20), cell(6, 6, 2))])

    def test_within(self):
        self.assertEqual([self.lot.within(fence) for fence in range(5)], [(), (0, 4), (), (0, 1, 4), ()])
        nest = Lot([Fence(row) for row in nested(6)])
        self.assertEqual([nest.within(fence=fence) for fence in range(6)], [tuple(range(k + 1, 6)) for k in range(6)])
        beside = Lot([Fence(cell(9 * k, 0)) for k in range(6)])
        self.assertEqual([beside.within(fence) for fence in range(6)], [()] * 6)

    def test_in_a_dent(self):
        dent = ((0, 0), (20, 0), (20, 20), (10, 5), (0, 20))
        lot = Lot([Fence(dent), Fence(cell(9, 12, 2))])
        self.assertEqual([lot.within(0), lot.within(1)], [(), ()])

    def test_innermost(self):
        for numbers, told in (((0, 1, 2, 3, 4), (0, 2, 4)), ((3, 1), (1,)), ((3,), (3,)), ((3, 2), (2, 3)), ((1, 3, 2), (1, 2)),
                              ((4, 0), (0, 4)), ((4, 3), (4,))):
            for order in itertools.permutations(numbers):
                self.assertEqual(self.lot.innermost(order), told)
                self.assertEqual(self.lot.innermost(numbers=list(order)), told)

    def test_only(self):
        for numbers in ((0,), (3, 1), (4, 2, 0), (4, 3, 2, 1, 0)):
            told = self.lot.only(numbers)
            self.assertEqual(told, Lot([self.lot.fences[number] for number in sorted(numbers)]))
            self.assertEqual(self.lot.only(numbers=list(numbers)), told)

    def test_errors(self):
        for bad in NO_INTEGERS + (-1, 5, 10 ** 30):
            self.check_part(BadNumber, "fence", self.lot.within, bad)
            for call in (self.lot.innermost, self.lot.only):
                if not isinstance(bad, (tuple, list)) or bad == ():
                    self.check_part(BadNumber, "numbers", call, bad)
                self.check_part(BadNumber, "numbers", call, [bad])
                self.check_part(BadNumber, "numbers", call, [0, bad])
        for bad in ([0, 0], (1, 2, 1), [], [0, 1, 2, 3, 4, 4], [1, True], {0: 1}, {0, 1}, range(2), "01"):
            for call in (self.lot.innermost, self.lot.only):
                self.check_part(BadNumber, "numbers", call, bad)


if __name__ == "__main__":
    unittest.main()

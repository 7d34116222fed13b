import unittest

from oddsquares.errors import BadFence, BadNumber, BadRatio, Misfit
from oddsquares.fences import Fence
from oddsquares.fours import on_four
from oddsquares.frames import is_frame, places
from oddsquares.lots import Lot
from oddsquares.triangles import over_base
from tests.shapes import KITE, TRI, cell, dot, minus, star
from tests.values import NO_INTEGERS, NO_RATIOS, Raises, fractions_of

ACUTE, BLUNT, RIGHT = TRI, ((0, 0), (4, 0), (6, 3)), ((0, 0), (4, 0), (0, 3))
NO_FENCES = (None, True, 0, "", TRI, [TRI], Lot([Fence(TRI)]), object(), Fence)
RATIOS = (1, 2, (1, 2), (1, 10 ** 30), 10 ** 30, (1000001, 1000000), (999999, 1000000))


def is_blunt(fence, base):
    """Whether an angle at this side is blunt."""
    start, end = (fractions_of(point) for point in fence.sides[base])
    top = fractions_of(fence.corners[(base + 2) % 3])
    return dot(minus(end, start), minus(top, start)) < 0 or dot(minus(start, end), minus(top, end)) < 0


class OverBaseTest(Raises, unittest.TestCase):
    def check(self, corners, ratio):
        """Checks the frames over all sides; returns how many there are."""
        fence = Fence(corners)
        lot = Lot([fence])
        many = 0
        for base in range(3):
            told = over_base(fence, base, ratio)
            four = [(0, base), (0, base), (0, (base + 1) % 3), (0, (base + 2) % 3)]
            right = on_four(lot, four, ratio)
            self.assertEqual(told is None, is_blunt(fence, base))
            self.assertEqual(told, right.posts if right else None)
            self.assertEqual(over_base(ratio=ratio, base=base, fence=fence), told)
            if told is not None:
                self.assertIs(is_frame(told, ratio), True)
                self.assertEqual([sides[0] for sides in places(lot, told)].count((0, base)) >= 1, True)
                many += 1
        return many

    def test_all_bases(self):
        for ratio in RATIOS:
            self.assertEqual(self.check(ACUTE, ratio), 3)
            self.assertEqual(self.check(BLUNT, ratio), 1)
            self.assertEqual(self.check(RIGHT, ratio), 3)
            self.assertEqual(self.check([(0, 0), (1, 10), (-30, 7)], ratio), 3)
            self.assertEqual(self.check([(0, 0), (100, 1), (-100, 1)], ratio), 1)

    def test_long_numbers(self):
        for seed in range(5):
            self.check(star(3, 9, seed=seed), (10 ** 29 + 7, 10 ** 29))

    def test_a_right_angle(self):
        fence = Fence(RIGHT)
        # Over both sides at the right angle a post is at this corner, over the third side none is.
        self.assertEqual(over_base(fence, 0, 1)[0], ((0, 1), (0, 1)))
        self.assertEqual(over_base(fence, 2, 1)[1], ((0, 1), (0, 1)))
        self.assertNotIn(((0, 1), (0, 1)), over_base(fence, 1, 1))
        self.assertEqual(over_base(fence, 0, [1, 1]), over_base(fence, 0, 1))

    def test_corners_right_hand_round(self):
        # Sides are those of the fence as it is kept.
        fence = Fence([(0, 0), (1, 3), (4, 0)])
        self.assertEqual(over_base(fence, 0, 2), over_base(Fence(TRI), 0, 2))

    def test_errors(self):
        for bad in NO_FENCES:
            self.check_part(BadFence, "fence", over_base, bad, None, None)
        for bad in NO_INTEGERS + (-1, 3, 4):
            self.check_part(BadNumber, "base", over_base, Fence(TRI), bad, None)
        for bad in NO_INTEGERS + (-1, 4):
            self.check_part(BadNumber, "base", over_base, Fence(KITE), bad, 1)
        for bad in NO_RATIOS:
            self.check_part(BadRatio, "ratio", over_base, Fence(TRI), 0, bad)
            self.check_part(BadRatio, "ratio", over_base, Fence(KITE), 3, bad)
        for base in range(4):
            self.check_part(Misfit, "fence", over_base, Fence(cell(0, 0)), base, 1)
        self.check_part(Misfit, "fence", over_base, Fence([(0, 0), (2, 0), (4, 0), (1, 3)]), 0, 1)


if __name__ == "__main__":
    unittest.main()

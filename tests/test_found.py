import unittest

from oddsquares.errors import BadLot, TooMany
from oddsquares.fences import Fence
from oddsquares.found import found
from oddsquares.frames import is_frame, stands
from oddsquares.judged import judged
from oddsquares.lots import Lot
from tests.shapes import DENT, KITE, STRAIGHT, TRI, cell, comb, minus, nested, on_side, sides_of, star
from tests.told import BENT, LARGE, RING, lot_of, moved
from tests.values import Raises, fractions_of, in_lists

NO_LOTS = (None, True, 0, "", [], [Fence(TRI)], Fence(TRI), TRI, object(), Lot)
RIGHT = ((0, 0), (4, 0), (0, 3))
STEPS = ((0, 0), (6, 0), (6, 2), (4, 2), (4, 4), (2, 4), (2, 6), (0, 6))
LOTS = ((TRI,), (KITE,), (DENT,), (BENT,), (STRAIGHT,), RING, (LARGE, TRI), (TRI, moved(TRI, 10, 1, 2)), (TRI, moved(KITE, 5, 2, (1, 2))),
        (RIGHT,), (cell(0, 0),), (((0, 0), (8, 0), (8, 3), (0, 3)),), (comb(3),), (STEPS,), (cell(0, 0), cell(9, 0)), tuple(nested(3)),
        (((0, 0), ((4, 7), 0), (4, 0), (1, 3)),), (((0, 0), ((16, 7), 0), (4, 0), (1, 3)),), (((0, 0), (7, 1), (9, 1), (2, 0)),),
        (((0, 0), (2, 0), (4, 0), (4, 1), (4, 4), (0, 4)),), (((0, 0), (10, 0), (9, 4), (2, 4)),), (moved(TRI, 0, 0, (1, 10 ** 20)), LARGE),
        (((0, 0), (100, 0), (100, 1), (0, 1)),), (((0, 0), (10 ** 30, 1), (1, 10 ** 30)), moved(RIGHT, -9, -9)))


def turned_at_will(rows):
    """The corners turned by a right-angled triangle of the sides 20, 21, 29, and grown."""
    return tuple(tuple((20 * x - 21 * y, 21 * x + 20 * y) for x, y in row) for row in rows)


class FoundTest(Raises, unittest.TestCase):
    def check(self, lot):
        told = found(lot)
        self.assertIs(is_frame(told, 1), True)
        self.assertIs(stands(lot, told, 1), True)
        self.assertIs(type(told), tuple)
        sides = [side for fence in lot.fences for side in sides_of(fence.corners)]
        posts = [fractions_of(post) for post in told]
        for post in posts:
            self.assertTrue(any(on_side(post, side) for side in sides))
        along, up = minus(posts[1], posts[0]), minus(posts[3], posts[0])
        self.assertEqual((up, minus(posts[2], posts[1])), ((-along[1], along[0]), up))
        self.assertNotEqual(along, (0, 0))
        again = Lot([Fence(in_lists(fence.corners)) for fence in lot.fences])
        self.assertEqual((found(again), found(lot=lot)), (told, told))

    def test_squares(self):
        kinds = set()
        for rows in LOTS:
            with self.subTest(rows=rows):
                lot = lot_of(*rows)
                self.check(lot)
                kinds.add((judged(lot, 1).word, len(lot)))
        self.assertEqual(kinds, {(word, many) for word in ("plain", "barred") for many in (1, 2)} | {("barred", 3)})

    def test_turned(self):
        for rows in ((RIGHT,), (cell(0, 0),), (STEPS,), (KITE,), (TRI, cell(7, 0)), (comb(2),)):
            self.check(lot_of(*turned_at_will(rows)))

    def test_fences_beside_and_within(self):
        outer = ((-30, -20), (50, -25), (10, 60))
        for rows in ((outer, TRI, moved(TRI, 5, 4)), (outer, cell(0, 0), cell(6, 6)), (outer, cell(0, 0, 9), moved(TRI, 3, 3, (1, 2))),
                     (RIGHT, moved(TRI, 30, 0), moved(KITE, 0, 30))):
            self.check(lot_of(*rows))

    def test_16_sides_and_17(self):
        for rows in ((star(16, 9),), (star(8, 9), star(8, 9, (3, 30), 4)), (comb(7)[:16],), tuple(nested(4)), (STEPS, moved(STEPS, 9, 1))):
            self.check(lot_of(*rows))
        for rows in ((star(17, 9),), (star(9, 5), star(8, 5, (20, 0)))):
            self.check_raises(TooMany, {"what": "sides", "most": 16}, found, lot_of(*rows))

    def test_errors(self):
        for bad in NO_LOTS:
            self.check_part(BadLot, "lot", found, bad)


if __name__ == "__main__":
    unittest.main()

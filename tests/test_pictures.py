import itertools
import unittest
from fractions import Fraction

from oddsquares.errors import BadLot, BadNumber, BadPoint
from oddsquares.fences import Fence
from oddsquares.judged import judged
from oddsquares.lots import Lot
from oddsquares.pictures import box_of, picture
from tests.shapes import DENT, KITE, TRI, cell, comb, nested, on_side, sides_of, star
from tests.told import LARGE, RING, lot_of, moved
from tests.values import NO_INTEGERS, NO_POINTS, Raises, fractions_of, in_lists, pair

NO_LOTS = (None, True, 0, "", [], [Fence(TRI)], Fence(TRI), TRI, object(), Lot)
LOTS = (lot_of(TRI), lot_of(KITE), lot_of(DENT), lot_of(*RING), lot_of(LARGE, TRI), lot_of(cell(0, 0)), lot_of(comb(2)), lot_of(*nested(3)),
        lot_of(((0, 0), (6, 6), (0, 12), (-6, 6))), lot_of(moved(KITE, (1, 3), (-7, 2), (3, 7))))
SIZES = ((1, 1), (2, 1), (1, 3), (3, 2), (4, 4), (7, 5), (12, 6))


def span_of(lot):
    """The least and the greatest x, the least and the greatest y."""
    corners = [fractions_of(corner) for fence in lot.fences for corner in fence.corners]
    return [pick(corner[axis] for corner in corners) for axis in (0, 1) for pick in (min, max)]


def holds(box, point):
    return box[0] <= point[0] <= box[1] and box[2] <= point[1] <= box[3]


def has_point_of(box, side):
    """Whether a cell has a point of a side: an end in it, a corner of it on the side, or its rim is crossed."""
    if any(holds(box, end) for end in side):
        return True
    rim = [(box[0], box[2]), (box[1], box[2]), (box[1], box[3]), (box[0], box[3])]
    if any(on_side(corner, side) for corner in rim):
        return True
    # Neither an end within nor a corner on the side: then it passes between two corners of the cell, or not at all.
    way = (side[1][0] - side[0][0], side[1][1] - side[0][1])
    turns = [way[0] * (corner[1] - side[0][1]) - way[1] * (corner[0] - side[0][0]) for corner in rim]
    if not min(turns) < 0 < max(turns):
        return False
    return all(min(end[axis] for end in side) <= box[2 * axis + 1] and max(end[axis] for end in side) >= box[2 * axis] for axis in (0, 1))


def own_picture(lot, frames, wide, high):
    left, right, low, top = span_of(lot)
    corners = [fractions_of(corner) for fence in lot.fences for corner in fence.corners]
    sides = [side for fence in lot.fences for side in sides_of(fence.corners)]
    frames = [[fractions_of(post) for post in posts] for posts in frames]
    xs = [left + (right - left) * Fraction(k, wide) for k in range(wide + 1)]
    ys = [low + (top - low) * Fraction(k, high) for k in range(high + 1)]

    def sign(box):
        for number, posts in enumerate(frames):
            if any(holds(box, post) for post in posts):
                return "abcdefghijklmnopqrstuvwxyz"[number]
        if any(holds(box, corner) for corner in corners):
            return "o"
        return "." if any(has_point_of(box, side) for side in sides) else " "

    return tuple("".join(sign((xs[k], xs[k + 1], ys[row], ys[row + 1])) for k in range(wide)) for row in range(high - 1, -1, -1))


class PicturesTest(Raises, unittest.TestCase):
    def check(self, lot, frames, wide, high):
        told = picture(lot, frames, wide, high)
        self.assertEqual(told, own_picture(lot, frames, wide, high))
        self.assertEqual(picture(high=high, wide=wide, frames=in_lists(tuple(frames)), lot=lot), told)
        return told

    def test_boxes(self):
        for lot in LOTS + (lot_of(star(40, 9), star(20, 9, (30, 0))),):
            left, right, low, top = span_of(lot)
            self.assertEqual(box_of(lot), ((pair(left), pair(low)), (pair(right), pair(top))))
            self.assertEqual(box_of(lot=lot), box_of(lot))

    def test_lots(self):
        for lot in LOTS:
            for wide, high in SIZES:
                with self.subTest(lot=[fence.corners for fence in lot.fences], wide=wide, high=high):
                    self.check(lot, [], wide, high)

    def test_frames(self):
        for lot in (lot_of(TRI), lot_of(*RING), lot_of(LARGE, TRI)):
            frames = [row[2] for row in judged(lot, 1).rows][:26]
            for wide, high in SIZES:
                self.check(lot, frames, wide, high)
                self.check(lot, frames[::-1], wide, high)

    def test_points_on_rims(self):
        # In one cell, in two and in four; at the corners of the box, too.
        lot = lot_of(cell(0, 0))
        for x, y in itertools.product((0, (1, 2), 1, (3, 2), 2, 4), repeat=2):
            self.check(lot, [[(x, y), (9, 9), (9, 9), (9, 9)]], 4, 4)
        self.assertEqual(picture(lot, [[(1, 1), (3, 2), ((5, 2), (7, 2)), (2, 2)]], 4, 4), ("o.ao", ".aaa", "aaaa", "aa.o"))
        self.assertEqual(picture(lot, [], 2, 2), ("oo", "oo"))
        # Many sides by a corner of cells, level and upright ones on rims.
        for wide, high in ((4, 4), (8, 4), (3, 3), (5, 2)):
            self.check(lot_of(((0, 0), (2, 2), (4, 0), (4, 4), (2, 3), (0, 4))), [], wide, high)
            self.check(lot_of(((0, 0), (8, 0), (8, 8), (0, 8)), ((2, 2), (6, 2), (6, 6), (2, 6))), [], wide, high)

    def test_least_numbers(self):
        lot = lot_of(TRI)
        here, there = [(1, 1)] * 4, [(2, 1)] * 4
        self.assertEqual(picture(lot, [here, there, here], 1, 1), ("a",))
        self.assertEqual(picture(lot, [there, here, here], 8, 6), self.check(lot, [there, here], 8, 6))
        frames = [[(Fraction(k, 7), 1)] * 4 for k in range(26)]
        frames = [[tuple(pair(part) for part in post) for post in posts] for posts in frames]
        told = self.check(lot, frames, 60, 3)
        self.assertIn("z", "".join(told))

    def test_posts_outside(self):
        lot = lot_of(TRI)
        empty = picture(lot, [], 5, 4)
        for x, y in ((-1, 1), (5, 1), (2, -1), (2, 4), ((-1, 10 ** 30), 1), (10 ** 30, 10 ** 30), (-9, -9), ((4 * 10 ** 9 + 1, 10 ** 9), 0)):
            self.assertEqual(self.check(lot, [[(x, y)] * 4], 5, 4), empty)

    def test_26_frames_and_27(self):
        lot = lot_of(TRI)
        frames = [[(k % 5, k % 4)] * 4 for k in range(27)]
        self.check(lot, frames[:26], 4, 3)
        self.check_part(BadPoint, "frames", picture, lot, frames, 4, 3)
        self.assertEqual(picture(lot, (), 4, 3), picture(lot, [], 4, 3))

    def test_60_cells(self):
        for lot in (lot_of(TRI), lot_of(*[star(10, 9, (30 * k, 7 * k), k) for k in range(6)])):
            frames = [[(k, k), (k + 1, k), (k + 1, k + 1), (k, k + 1)] for k in range(26)]
            told = picture(lot, frames, 60, 60)
            self.assertEqual({len(line) for line in told}, {60})
            self.assertEqual(len(told), 60)
        self.check(lot_of(TRI), [], 60, 7)
        self.check(lot_of(KITE), [], 3, 60)
        self.check(lot_of(star(20, 9), star(5, 2, (30, 1))), [], 30, 9)

    def test_errors(self):
        lot = lot_of(TRI)
        for bad in NO_LOTS:
            self.check_part(BadLot, "lot", box_of, bad)
            self.check_part(BadLot, "lot", picture, bad, None, None, None)
        post = (1, 1)
        for bad in (None, True, 0, "", "abcd", {}, {0: [post] * 4}, object(), [None], [[post] * 3], [[post] * 5], [post] * 4, [[post] * 4, []],
                    iter([]), {1, 2}) + tuple([[post, post, point, post]] for point in NO_POINTS):
            self.check_part(BadPoint, "frames", picture, lot, bad, None, None)
        for bad in NO_INTEGERS + (0, 61, -1, (4, 1)):
            self.check_part(BadNumber, "wide", picture, lot, [], bad, None)
            self.check_part(BadNumber, "high", picture, lot, [], 1, bad)
            self.check_part(BadNumber, "high", picture, lot, [], 60, bad)


if __name__ == "__main__":
    unittest.main()

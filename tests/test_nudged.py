import unittest
from fractions import Fraction

from oddsquares.errors import BadLot, BadNumber, BadPoint, BadRatio, NoFence, NoLot, TooMany
from oddsquares.fences import Back, Fence, Meets, Short
from oddsquares.judged import judged
from oddsquares.lots import Cross, Lot
from oddsquares.nudged import nudged, with_corners
from tests.shapes import DENT, KITE, TRI, cell, comb, nested, star
from tests.told import LARGE, RING, lot_of, moved
from tests.values import NO_NUMBERS, NO_POINTS, NO_RATIOS, Raises, fraction, fractions_of, in_lists, pair

NO_LOTS = (None, True, 0, "", [], [Fence(TRI)], Fence(TRI), TRI, object(), Lot)
RIGHT = ((0, 0), (4, 0), (0, 3))
# With the span 202 this fence has a right corner in try 1, too.
RIGHT_AGAIN = ((0, 0), (3, 0), (0, 171))


def own_moves(lot, number, span):
    """The moves of a try by the formula of the document, with Python's own fractions."""
    def part(j):
        if number == 0:
            return pair(0)
        rest = (number * (7 * j * j + 13 * j) + 29 * number * number) % 101
        return pair(fraction(span) * Fraction(rest - 50, 101 * 2 ** number))

    moves, place = [], 0
    for fence in lot.fences:
        moves.append([(part(2 * place + 2 * k), part(2 * place + 2 * k + 1)) for k in range(len(fence))])
        place += len(fence)
    return moves


def own_tries(lot, span):
    """For each try the lot that it leaves, or None."""
    tries = []
    for number in range(21):
        try:
            tries.append(with_corners(lot, own_moves(lot, number, span)))
        except (NoFence, NoLot):
            tries.append(None)
    return tries


class WithCornersTest(Raises, unittest.TestCase):
    def test_moves(self):
        for rows in ((TRI,), RING, (LARGE, KITE), (DENT, moved(TRI, 9, 9))):
            lot = lot_of(*rows)
            for step in ((0, 0), (1, (1, 2)), ((-1, 3), 5)):
                moves = [[(Fraction(place * k, 9), Fraction(1, k + 7)) for k in range(len(fence))] for place, fence in enumerate(lot.fences)]
                moves = [[tuple(pair(part + fraction(by)) for part, by in zip(way, step)) for way in row] for row in moves]
                told = with_corners(lot, moves)
                own = [[tuple(pair(p + q) for p, q in zip(fractions_of(corner), fractions_of(way))) for corner, way in zip(fence.corners, row)]
                       for fence, row in zip(lot.fences, moves)]
                self.assertEqual(told, lot_of(*own))
                self.assertEqual(with_corners(moves=in_lists(tuple(map(tuple, moves))), lot=lot), told)
        self.assertEqual(lot.fences[0], Fence(DENT))

    def test_no_moves_and_turned_about(self):
        lot = lot_of(TRI)
        self.assertEqual(with_corners(lot, [[(0, 0)] * 3]), lot)
        # The last corner goes to the other side: then the fence comes right-hand round, and is kept left-hand round.
        told = with_corners(lot, [[(0, 0), (0, 0), (0, -9)]])
        self.assertEqual(told.fences[0].corners, (((0, 1), (0, 1)), ((1, 1), (-6, 1)), ((4, 1), (0, 1))))

    def test_bad_moves(self):
        lot = lot_of(TRI, moved(KITE, 9, 9))
        good = [[(0, 0)] * 3, [(0, 0)] * 4]
        bad = [None, True, 0, "", "ab", (), [], good[:1], good[::-1], good + [[]], [good[0], good[1][:3]], [good[0] + [(0, 0)], good[1]],
               {0: good[0], 1: good[1]}, good[0] + good[1], [(0, 0)] * 7, [good[0], None], [good[0], "abcd"], [good[0], {0, 1, 2, 3}], object()]
        bad += [[good[0], good[1][:k] + [point] + good[1][k + 1:]] for point in NO_POINTS for k in (0, 3)]
        for moves in bad:
            self.check_part(BadPoint, "moves", with_corners, lot, moves)
        self.check_part(BadPoint, "moves", with_corners, lot_of(TRI), good)

    def test_no_fence(self):
        lot = lot_of(KITE, moved(TRI, 9, 9), moved(TRI, 30, 30))
        still = [(0, 0)] * 3
        cases = (([(4, 0), (0, 0), (0, 0), (0, 0)], Short(0)), ([(0, 0), (0, 0), (-1, -2), (0, 0)], Back(1)),
                 ([(0, 0), (0, 0), (0, 0), (2, -4)], Meets(0, 2, ((3, 1), (0, 1)))))
        for row, why in cases:
            # The first fence of which it is told: also ahead of a second one that fails.
            for other in (still, [(4, 0), (0, 0), (0, 0)]):
                self.check_raises(NoFence, {"why": why}, with_corners, lot, [row, other, still])
        self.check_raises(NoFence, {"why": Short(0)}, with_corners, lot, [[(0, 0)] * 4, [(4, 0), (0, 0), (0, 0)], still])
        # Also ahead of fences that meet.
        self.check_raises(NoFence, {"why": Short(0)}, with_corners, lot, [[(9, 9)] * 4, still, [(4, 0), (0, 0), (0, 0)]])

    def test_no_lot(self):
        lot = lot_of(TRI, moved(TRI, 9, 9), moved(TRI, 30, 30))
        still = [(0, 0)] * 3
        self.check_raises(NoLot, {"why": Cross((0, 0), (1, 0), ((0, 1), (0, 1)))}, with_corners, lot, [still, [(-9, -9)] * 3, [(-30, -30)] * 3])
        self.check_raises(NoLot, {"why": Cross((1, 0), (2, 0), ((9, 1), (9, 1)))}, with_corners, lot, [still, still, [(-21, -21)] * 3])

    def test_errors(self):
        for bad in NO_LOTS:
            self.check_part(BadLot, "lot", with_corners, bad, None)


class NudgedTest(Raises, unittest.TestCase):
    def check(self, lot, ratio, span):
        """The number of the try, None if none is left."""
        told = nudged(lot, ratio, span)
        number = None
        for number, own in enumerate(own_tries(lot, span)):
            if own is not None and judged(own, ratio):
                self.assertEqual(told, own)
                break
        else:
            self.assertIsNone(told)
            number = None
        self.assertEqual(nudged(span=pair(fraction(span)), ratio=list(pair(fraction(ratio))), lot=lot), told)
        return number

    def test_plain_already(self):
        for rows in ((TRI,), (KITE,), RING, (LARGE, TRI)):
            for ratio in (1, 2, (10 ** 30 + 1, 10 ** 30)):
                for span in (1, 10 ** 30, (1, 10 ** 30)):
                    self.assertEqual(nudged(lot_of(*rows), ratio, span), lot_of(*rows))

    def test_tries(self):
        numbers = set()
        for rows in ((RIGHT,), (cell(0, 0),), (cell(0, 0), cell(9, 0)), (TRI, moved(RIGHT, 9, 0)), (comb(2),), (RIGHT_AGAIN,), tuple(nested(2))):
            for ratio in (1, 2, (1, 3), (1, 10 ** 9)):
                for span in ((1, 10), 1, 10, 202, (10 ** 29, 10 ** 30 + 1)):
                    with self.subTest(rows=rows, ratio=ratio, span=span):
                        numbers.add(self.check(lot_of(*rows), ratio, span))
        self.assertLessEqual({1, 2, 3, 5}, numbers)

    def test_right_in_try_1_again(self):
        lot = lot_of(RIGHT_AGAIN)
        again = with_corners(lot, own_moves(lot, 1, 202))
        self.assertEqual(again.fences[0].corners, (((-21, 1), (-1, 1)), ((36, 1), (-20, 1)), ((42, 1), (188, 1))))
        for ratio in (1, 2, (1, 2)):
            self.assertIs(bool(judged(again, ratio)), False)
            self.assertEqual(self.check(lot, ratio, 202), 2)

    def test_tries_that_leave_no_lot(self):
        lot = lot_of(*nested(3))
        self.assertEqual([own is None for own in own_tries(lot, 20)[:5]], [False, True, True, True, False])
        self.assertGreater(self.check(lot, 1, 20), 3)
        self.assertGreater(self.check(lot_of(cell(0, 0), cell(5, 0)), 1, 60), 2)
        # A fence alone: the tries are no fences.
        alone = lot_of(comb(3))
        self.assertRaises(NoFence, with_corners, alone, own_moves(alone, 1, 60))
        self.assertGreater(self.check(alone, 2, 60), 1)

    def test_none_is_left(self):
        lot = lot_of(*nested(4))
        self.assertEqual([own for own in own_tries(lot, 10 ** 30) if own is not None], [lot])
        self.assertIsNone(self.check(lot, 1, 10 ** 30))
        self.assertIsNone(nudged(lot, 2, 10 ** 30))

    def test_try_20_is_the_last_one(self):
        lot = lot_of(*nested(4))
        self.assertEqual(self.check(lot, 1, 2 ** 20), 20)
        # Here try 21 would be the first one that leaves a plain lot.
        self.assertIs(bool(judged(with_corners(lot, own_moves(lot, 21, 2 ** 21)), 1)), True)
        self.assertIsNone(self.check(lot, 1, 2 ** 21))

    def test_corners_are_counted_through(self):
        # The second fence alone is not plain: its corners are moved as those from 3 on.
        lot = lot_of(TRI, moved(RIGHT, 9, 0))
        told = nudged(lot, 1, (1, 10))
        rests = [(7 * j * j + 13 * j + 29) % 101 for j in (6, 7)]
        self.assertEqual(rests, [56, 59])
        self.assertEqual(told.fences[1].corners[0], (pair(9 + Fraction(6, 2020)), pair(Fraction(9, 2020))))

    def test_16_sides_and_17(self):
        for rows in (tuple(nested(4)), (comb(7)[:16],), (star(16, 9),)):
            self.check(lot_of(*rows), (7, 5), (1, 10 ** 20))
        for rows in ((star(17, 9),), (star(9, 5), star(8, 5, (20, 0)))):
            self.check_raises(TooMany, {"what": "sides", "most": 16}, nudged, lot_of(*rows), 1, 1)

    def test_errors(self):
        large = lot_of(star(17, 9))
        for bad in NO_LOTS:
            self.check_part(BadLot, "lot", nudged, bad, None, None)
        for bad in NO_RATIOS:
            self.check_part(BadRatio, "ratio", nudged, large, bad, None)
        for bad in NO_NUMBERS + (0, -1, (0, 1), (-1, 10 ** 30)):
            self.check_part(BadNumber, "span", nudged, large, 1, bad)


if __name__ == "__main__":
    unittest.main()

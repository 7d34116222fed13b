import unittest

from oddsquares.errors import BadLot, BadNumber, BadPaper, BadPoint, BadRatio, Misfit, TooMany
from oddsquares.fences import Fence
from oddsquares.frames import row_of
from oddsquares.judged import Barred, Plain, judged
from oddsquares.likelots import grown, mirrored, other_rows, quartered, shifted, with_straight
from oddsquares.lots import Lot
from oddsquares.papers import Paper
from tests.shapes import DENT, KITE, STRAIGHT, TRI, cell, star
from tests.told import BENT, LARGE, RING, lot_of, moved
from tests.values import NO_INTEGERS, NO_NUMBERS, NO_POINTS, NO_RATIOS, Raises, fraction, fractions_of, in_lists, pair

NO_LOTS = (None, True, 0, "", [], [Fence(TRI)], Fence(TRI), TRI, object(), Lot)
RIGHT = ((0, 0), (4, 0), (0, 3))
LOTS = ((TRI,), (KITE,), (DENT,), (STRAIGHT,), RING, (LARGE, TRI), (TRI, moved(KITE, 5, 2, (1, 2))), (RIGHT,), (cell(0, 0), cell(9, 0)))
# Words of which the mirrored ones are the least by going on by no post, one, two and three.
PLAIN = ((TRI,), (BENT,), RING, (LARGE, TRI), (TRI, LARGE), (TRI, moved(TRI, 10, 1, 2)), (LARGE, TRI, moved(TRI, 6, -5)))


def changed(points, change):
    return tuple(tuple(pair(part) for part in change(*fractions_of(point))) for point in points)


def corners_of(lot):
    return [fence.corners for fence in lot.fences]


def least(row, ratio):
    """The reading of a row with the least (word, four), the kind of each reading being that of the row."""
    word, four, posts, kind = row
    steps = (0, 1, 2, 3) if ratio == 1 else (0, 2)
    return min((word[k:] + word[:k], four[k:] + four[:k], posts[k:] + posts[:k], kind, k) for k in steps)


class LikeLotsTest(Raises, unittest.TestCase):
    def check_rows(self, lot, like, change):
        """The rows of a lot that is moved, turned or grown."""
        for ratio in (1, (3, 2)):
            told, other = judged(lot, ratio), judged(like, ratio)
            self.assertEqual(bool(told), bool(other))
            if told:
                self.assertEqual(other.rows, tuple((word, four, changed(posts, change), kind) for word, four, posts, kind in told.rows))

    def test_shifted(self):
        for rows in LOTS:
            lot = lot_of(*rows)
            for vector in ((1, (1, 2)), [0, 0], ((-7, 3), -10 ** 30)):
                x, y = fractions_of(vector)
                told = shifted(lot, vector)
                self.assertEqual(corners_of(told), [changed(corners, lambda p, q: (p + x, q + y)) for corners in corners_of(lot)])
                self.assertEqual(shifted(vector=(pair(-x), pair(-y)), lot=told), lot)
            self.check_rows(lot, shifted(lot, (5, (-1, 3))), lambda p, q: (p + 5, q - fraction((1, 3))))

    def test_quartered(self):
        for rows in LOTS:
            lot = lot_of(*rows)
            told = quartered(lot)
            self.assertEqual(corners_of(told), [changed(corners, lambda p, q: (-q, p)) for corners in corners_of(lot)])
            self.assertEqual(quartered(quartered(quartered(lot=told))), lot)
            self.check_rows(lot, told, lambda p, q: (-q, p))

    def test_grown(self):
        for rows in LOTS:
            lot = lot_of(*rows)
            for factor in (1, 2, (1, 3), [7, 5], (1, 10 ** 30), 10 ** 30):
                size = fraction(factor)
                told = grown(lot, factor)
                self.assertEqual(corners_of(told), [changed(corners, lambda p, q: (p * size, q * size)) for corners in corners_of(lot)])
                self.assertEqual(grown(factor=pair(1 / size), lot=told), lot)
            self.check_rows(lot, grown(lot, (7, 5)), lambda p, q: (p * fraction((7, 5)), q * fraction((7, 5))))

    def test_mirrored_corners(self):
        for rows in LOTS + ((star(20, 9), star(40, 9, (30, 0))),):
            lot = lot_of(*rows)
            told = mirrored(lot)
            for fence, like in zip(lot.fences, told.fences):
                many = len(fence)
                self.assertEqual(changed(like.corners, lambda x, y: (-x, y)), tuple(fence.corners[-k % many] for k in range(many)))
                self.assertEqual((like.area, like.bends), (fence.area, tuple(fence.bends[-k % many] for k in range(many))))
            self.assertEqual(mirrored(lot=told), lot)

    def own_mirrored(self, lot, row, ratio):
        """The row of the mirrored frame, and how many posts one goes on to its least reading."""
        word, four, posts, kind = row
        order = (1, 0, 3, 2)
        sides = tuple((four[k][0], len(lot.fences[four[k][0]]) - 1 - four[k][1]) for k in order)
        posts = changed([posts[k] for k in order], lambda x, y: (-x, y))
        return least((tuple(word[k] for k in order), sides, posts, kind), ratio)

    def test_mirrored_rows(self):
        seen = set()
        for rows in PLAIN:
            lot = lot_of(*rows)
            for ratio in (1, 2, (2, 3)):
                told = []
                for row in judged(lot, ratio).rows:
                    word, four, posts, kind, on = self.own_mirrored(lot, row, ratio)
                    seen.add((on, abs(kind)))
                    told.append((word, four, posts, -kind if on in (1, 3) else kind))
                self.assertEqual(judged(mirrored(lot), ratio).rows, tuple(sorted(told)))
        self.assertLessEqual({(0, 1), (1, 1), (2, 1), (3, 1), (3, 0)}, seen)

    def test_sub_lots(self):
        lot = lot_of(LARGE, TRI, moved(TRI, 6, -5))
        for kept in ((0,), (1, 2), (0, 2)):
            told = [row for row in judged(lot, 2).rows if set(row[0]) <= set(kept)]
            self.assertEqual([(tuple(kept[k] for k in word), posts, kind) for word, _, posts, kind in judged(lot.only(kept), 2).rows],
                             [(word, posts, kind) for word, _, posts, kind in told])

    def test_errors(self):
        lot = lot_of(TRI)
        for bad in NO_LOTS:
            self.check_part(BadLot, "lot", shifted, bad, None)
            self.check_part(BadLot, "lot", quartered, bad)
            self.check_part(BadLot, "lot", mirrored, bad)
            self.check_part(BadLot, "lot", grown, bad, None)
        for bad in NO_POINTS:
            self.check_part(BadPoint, "vector", shifted, lot, bad)
        for bad in NO_NUMBERS + (0, -1, (0, 1), (-1, 2)):
            self.check_part(BadNumber, "factor", grown, lot, bad)


class WithStraightTest(Raises, unittest.TestCase):
    def check(self, lot, fence, side, share):
        told = with_straight(lot, fence, side, share)
        self.assertEqual(with_straight(share=list(pair(fraction(share))), side=side, fence=fence, lot=lot), told)
        corners = lot.fences[fence].corners
        start, end = fractions_of(corners[side]), fractions_of(corners[(side + 1) % len(corners)])
        point = tuple(pair(p + fraction(share) * (q - p)) for p, q in zip(start, end))
        rows = corners_of(lot)
        rows[fence] = corners[:side + 1] + (point,) + corners[side + 1:]
        self.assertEqual(corners_of(told), rows)
        self.assertEqual(told.fences[fence].bends[side + 1], "straight")
        return told

    def check_frames(self, lot, told, ratio):
        """All frames stay as they are, and so do their kinds."""
        rows, like = judged(lot, ratio).rows, judged(told, ratio).rows
        self.assertEqual(len(like), len(rows))
        for row in rows:
            other = row_of(told, row[2], ratio)
            self.assertIn(other, like)
            self.assertEqual(other[0], row[0])
            self.assertEqual(abs(other[3]), abs(row[3]))
            if ratio != 1:
                self.assertEqual(other[3], row[3])

    def test_each_side(self):
        for rows in ((TRI,), RING, (KITE, moved(TRI, 9, 9)), (STRAIGHT,)):
            lot = lot_of(*rows)
            for fence, side in lot.sides:
                for share in ((1, 2), (1, 997), (10 ** 30 - 1, 10 ** 30)):
                    told = self.check(lot, fence, side, share)
                    for ratio in (1, (3, 2)):
                        if judged(told, ratio):
                            self.check_frames(lot, told, ratio)

    def test_posts_and_other_places(self):
        lot = lot_of(TRI)
        for ratio in (1, 2):
            for word, four, posts, kind in judged(lot, ratio).rows:
                for (fence, side), post in zip(four, posts):
                    start, end = [fractions_of(point) for point in lot.side((fence, side))]
                    axis = 0 if start[0] != end[0] else 1
                    share = (fraction(post[axis]) - start[axis]) / (end[axis] - start[axis])
                    told = judged(self.check(lot, fence, side, pair(share)), ratio)
                    self.assertEqual((type(told), told.posts[told.post]), (Barred, post))
                    beside = self.check(lot, fence, side, pair(share + fraction((1, 10 ** 6))))
                    self.check_frames(lot, beside, ratio)

    def test_39_and_40_corners(self):
        self.assertEqual(len(self.check(lot_of(star(39, 9)), 0, 38, (1, 2)).fences[0]), 40)
        lot = lot_of(star(40, 9))
        for side in (0, 39):
            self.check_raises(TooMany, {"what": "corners", "most": 40}, with_straight, lot, 0, side, (1, 2))
        self.check_part(BadNumber, "side", with_straight, lot, 0, 40, (1, 2))
        self.check_part(BadNumber, "share", with_straight, lot, 0, 0, 1)

    def test_59_and_60_sides(self):
        lot = lot_of(star(30, 9), star(29, 9, (30, 0)))
        self.assertEqual(len(self.check(lot, 0, 29, (1, 3)).sides), 60)
        lot = lot_of(star(30, 9), star(30, 9, (30, 0)))
        self.check_raises(TooMany, {"what": "sides", "most": 60}, with_straight, lot, 1, 0, (1, 2))
        lot = lot_of(star(40, 9), star(20, 9, (30, 0)))
        self.check_raises(TooMany, {"what": "corners", "most": 40}, with_straight, lot, 0, 0, (1, 2))
        self.check_raises(TooMany, {"what": "sides", "most": 60}, with_straight, lot, 1, 0, (1, 2))

    def test_errors(self):
        lot = lot_of(TRI, moved(KITE, 9, 9))
        for bad in NO_LOTS:
            self.check_part(BadLot, "lot", with_straight, bad, None, None, None)
        for bad in NO_INTEGERS + (-1, 2):
            self.check_part(BadNumber, "fence", with_straight, lot, bad, None, None)
        for fence, many in ((0, 3), (1, 4)):
            for bad in NO_INTEGERS + (-1, many):
                self.check_part(BadNumber, "side", with_straight, lot, fence, bad, None)
        for bad in NO_NUMBERS + (0, 1, 2, -1, (0, 1), (1, 1), (-1, 2), (3, 2)):
            self.check_part(BadNumber, "share", with_straight, lot, 0, 0, bad)


class OtherRowsTest(Raises, unittest.TestCase):
    def test_rows(self):
        for rows in ((TRI,), (KITE,), (DENT,), (BENT,)) + PLAIN:
            lot = lot_of(*rows)
            for ratio in (2, (1, 2), (3, 2), (10 ** 30 + 1, 10 ** 30)):
                told, back = judged(lot, ratio), judged(lot, pair(1 / fraction(ratio)))
                self.assertEqual(bool(told), bool(back))
                if told:
                    self.assertEqual(other_rows(told, ratio), back.rows)
                    self.assertEqual(other_rows(plain=Plain(in_lists(told.rows)), ratio=list(pair(fraction(ratio)))), back.rows)
                    self.assertEqual(other_rows(Plain(other_rows(told, ratio)), ratio), told.rows)

    def test_no_rows(self):
        self.assertEqual(other_rows(Plain([]), 2), ())

    def test_errors(self):
        plain = judged(lot_of(TRI), 2)
        for bad in (None, True, 0, plain.rows, (), Paper("plain", plain.rows), judged(lot_of(RIGHT), 2), Plain, object()):
            self.check_part(BadPaper, "plain", other_rows, bad, None)
        for bad in NO_RATIOS:
            self.check_part(BadRatio, "ratio", other_rows, plain, bad)
        for one in (1, (1, 1), [1, 1]):
            self.check_part(Misfit, "ratio", other_rows, plain, one)


if __name__ == "__main__":
    unittest.main()

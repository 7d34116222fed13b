import random
import unittest
from fractions import Fraction

from oddsquares.errors import BadLot, BadPoint, BadRatio, Misfit
from oddsquares.fences import Fence
from oddsquares.fours import determinant, on_four
from oddsquares.frames import is_frame, places, readings, row_of, stands
from oddsquares.lots import Lot
from tests.shapes import DENT, KITE, TRI, cell, on_side, sides_of
from tests.values import NO_POINTS, NO_RATIOS, Raises, fraction, fractions_of, in_lists, pair

TENT = Lot([Fence(TRI)])
BASE = (((4, 7), (0, 1)), ((16, 7), (0, 1)), ((16, 7), (12, 7)), ((4, 7), (12, 7)))
RING = (((0, 0), (12, 1), (5, 11)), ((5, 3), (7, 4), (5, 6)))
NO_POSTS = (None, True, 0, "abcd", (), [], BASE[:3], BASE + BASE[:1], {post: 1 for post in BASE}, object(), (0, 1, 2, 3), range(4),
            iter(BASE))
NO_LOTS = (None, True, 0, "", [], [Fence(TRI)], Fence(TRI), TRI, object())


def frame(x, y, p, q, ratio):
    """The frame with p0 at (x, y) and the vector (p, q)."""
    x, y, p, q, r = (fraction(value) for value in (x, y, p, q, ratio))
    posts = ((x, y), (x + p, y + q), (x + p - r * q, y + q + r * p), (x - r * q, y + r * p))
    return tuple(tuple(pair(part) for part in post) for post in posts)


def lot_of(*rows):
    return Lot([Fence(row) for row in rows])


def found_rows(lot, ratio):
    """The frames on all fours that have one alone, each with its four."""
    return [(told.posts, (a, b, c, d)) for a in lot.sides for b in lot.sides for c in lot.sides for d in lot.sides
            for told in [on_four(lot, (a, b, c, d), ratio)] if told.word == "one"]


class IsFrameTest(Raises, unittest.TestCase):
    def test_frames(self):
        chance = random.Random(5)
        for run in range(200):
            ratio = chance.choice((1, 2, (1, 2), (7, 3), 10 ** 30))
            told = [chance.choice((0, 1, -2, 5, (1, 3), (-7, 2), 10 ** 30)) for _ in range(4)]
            posts = frame(*told, ratio)
            self.assertIs(is_frame(posts, ratio), told[2:] != [0, 0])
            self.assertIs(is_frame(posts=in_lists(posts), ratio=ratio), told[2:] != [0, 0])
            if told[2:] == [0, 0]:
                continue
            self.assertIs(is_frame(posts[::-1], ratio), False)
            self.assertIs(is_frame(posts[2:] + posts[:2], ratio), True)
            self.assertIs(is_frame(posts[1:] + posts[:1], ratio), ratio == 1)
            self.assertIs(is_frame(posts[1:] + posts[:1], pair(1 / fraction(ratio))), True)
            self.assertIs(is_frame(posts, pair(fraction(ratio) + 1)), False)
            for post in range(4):
                x, y = posts[post]
                moved = posts[:post] + ((pair(fraction(x) + 1), y),) + posts[post + 1:]
                self.assertIs(is_frame(moved, ratio), False)

    def test_integers_for_pairs(self):
        self.assertIs(is_frame([(0, 0), [1, 0], (1, (2, 1)), (0, 2)], [2, 1]), True)
        self.assertIs(is_frame(((0, 0), (3, 0), (3, 1), (0, 1)), (1, 3)), True)

    def test_any_value(self):
        for bad in NO_POSTS:
            self.assertIs(is_frame(bad, 1), False)
        for bad in NO_POINTS:
            self.assertIs(is_frame([bad] + list(BASE[1:]), 1), False)
        self.assertIs(is_frame([(0, 0), (True, 0), (1, 1), (0, 1)], 1), False)
        self.assertIs(is_frame([(0, 0), (1, 0), (1, (2, 2)), (0, 1)], 1), False)

    def test_errors(self):
        for bad in NO_RATIOS:
            self.check_part(BadRatio, "ratio", is_frame, BASE, bad)
            self.check_part(BadRatio, "ratio", is_frame, None, bad)


class ReadingsTest(Raises, unittest.TestCase):
    def test_ratio_1(self):
        for at in range(4):
            told = BASE[at:] + BASE[:at]
            right = tuple(told[k:] + told[:k] for k in range(4))
            for ratio in (1, (1, 1), [1, 1]):
                self.assertEqual(readings(told, ratio), right)
                self.assertEqual(readings(posts=in_lists(told), ratio=ratio), right)

    def test_other_ratios(self):
        for ratio in (2, (1, 2), (3, 2), [5, 4]):
            posts = frame((1, 2), 3, 2, (-1, 3), ratio)
            self.assertEqual(readings(posts, ratio), (posts, posts[2:] + posts[:2]))
            self.assertEqual(readings(posts[2:] + posts[:2], ratio), (posts[2:] + posts[:2], posts))

    def test_errors(self):
        for bad in NO_POSTS:
            self.check_part(BadPoint, "posts", readings, bad, None)
        for bad in NO_POINTS:
            self.check_part(BadPoint, "posts", readings, list(BASE[:3]) + [bad], 0)
        for bad in NO_RATIOS:
            self.check_part(BadRatio, "ratio", readings, [(0, 0)] * 4, bad)
        for posts, ratio in ((BASE, 2), (BASE[::-1], 1), ([(0, 0)] * 4, 1), ([(0, 0), (1, 0), (1, 1), (0, 2)], 1)):
            self.check_part(Misfit, "posts", readings, posts, ratio)


class PlacesTest(Raises, unittest.TestCase):
    def test_places(self):
        chance = random.Random(9)
        rows = (KITE, cell(9, 0), cell(10, 1, 2))
        lot = lot_of(*rows)
        sides = [((fence, k), side) for fence, row in enumerate(rows) for k, side in enumerate(sides_of(row))]
        seen = set()
        for run in range(300):
            points = [tuple(pair(Fraction(chance.randrange(28), 2)) for _ in range(2)) for _ in range(4)]
            points[0] = chance.choice(chance.choice(lot.fences).corners)
            told = places(lot, points)
            right = tuple(tuple(at for at, side in sides if on_side(fractions_of(point), side)) for point in points)
            self.assertEqual(told, right)
            self.assertEqual(places(posts=in_lists(tuple(points)), lot=lot), right)
            seen.update(len(part) for part in told)
        self.assertEqual(seen, {0, 1, 2})

    def test_corner_0(self):
        self.assertEqual(places(TENT, [(0, 0), (4, 0), (1, 3), (1, 1)]), (((0, 0), (0, 2)), ((0, 0), (0, 1)), ((0, 1), (0, 2)), ()))

    def test_errors(self):
        for bad in NO_LOTS:
            self.check_part(BadLot, "lot", places, bad, None)
        for bad in NO_POSTS:
            self.check_part(BadPoint, "posts", places, TENT, bad)
        for bad in NO_POINTS:
            self.check_part(BadPoint, "posts", places, TENT, [bad] + list(BASE[1:]))


class StandsTest(Raises, unittest.TestCase):
    def test_stands(self):
        for posts, ratio, told in ((BASE, 1, True), (BASE[2:] + BASE[:2], 1, True), (BASE[::-1], 1, False), (BASE, 2, False),
                                   ([(0, 0), (1, 0), (1, 1), (0, 1)], 1, False), ([(0, 0)] * 4, 1, False)):
            self.assertIs(stands(TENT, posts, ratio), told)
            self.assertIs(stands(lot=TENT, posts=in_lists(tuple(posts)), ratio=ratio), told)

    def test_posts_at_corners(self):
        box = lot_of(cell(0, 0))
        self.assertIs(stands(box, cell(0, 0), 1), True)
        self.assertIs(stands(box, [(2, 0), (4, 2), (2, 4), (0, 2)], 1), True)
        self.assertIs(stands(box, [(0, 0), (4, 0), (4, 2), (0, 2)], (1, 2)), True)
        self.assertIs(stands(box, cell(0, 0, 3), 1), False)
        self.assertIs(stands(box, cell(0, 0, 5), 1), False)

    def test_on_several_fences(self):
        lot = lot_of(cell(0, 0), cell(8, 0))
        self.assertIs(stands(lot, [(3, 0), (9, 0), (9, 4), (3, 4)], (2, 3)), True)
        self.assertIs(stands(lot, [(3, 0), (6, 0), (6, 4), (3, 4)], (4, 3)), False)

    def test_any_value(self):
        for bad in NO_POSTS:
            self.assertIs(stands(TENT, bad, 1), False)
        for bad in NO_POINTS:
            self.assertIs(stands(TENT, list(BASE[:3]) + [bad], 1), False)

    def test_errors(self):
        for bad in NO_LOTS:
            self.check_part(BadLot, "lot", stands, bad, BASE, None)
        for bad in NO_RATIOS:
            for posts in (BASE, None):
                self.check_part(BadRatio, "ratio", stands, TENT, posts, bad)


class RowTest(Raises, unittest.TestCase):
    def check_rows(self, lot, ratio):
        """Checks the rows of all frames within their sides, from each reading; returns their number."""
        rows = {}
        for posts, four in found_rows(lot, ratio):
            if any(len(sides) > 1 for sides in places(lot, posts)):
                self.check_part(Misfit, "posts", row_of, lot, posts, ratio)
                continue
            word, least, first, kind = row_of(lot, posts, ratio)
            read = readings(posts, ratio)
            fours = [four[k:] + four[:k] for k in range(0, 4, 4 // len(read))]
            self.assertEqual((word, least), min((tuple(at[0] for at in told), told) for told in fours))
            self.assertEqual(first, read[fours.index(least)])
            size = determinant(lot, least, ratio)[0]
            is_square_of_one = ratio == 1 and len(set(word)) == 1
            self.assertEqual(kind, 0 if is_square_of_one else (size > 0) - (size < 0))
            for told in read:
                self.assertEqual(row_of(lot, in_lists(told), ratio), (word, least, first, kind))
            rows[(word, least)] = kind
        return rows

    def sums_of(self, rows):
        sums = {}
        for (word, four), kind in rows.items():
            many, size = sums.get(word, (0, 0))
            sums[word] = (many + 1, size + kind)
        return sums

    def test_rows_and_kinds(self):
        self.assertEqual(self.sums_of(self.check_rows(TENT, 1)), {(0,) * 4: (3, 0)})
        self.assertEqual(self.sums_of(self.check_rows(TENT, 2)), {(0,) * 4: (6, 0)})
        self.assertEqual(self.sums_of(self.check_rows(lot_of(*RING), 1)), {(0,) * 4: (3, 0), (0, 0, 0, 1): (12, 0), (1,) * 4: (3, 0)})
        self.assertEqual(self.sums_of(self.check_rows(lot_of(*RING), 2)),
                         {(0,) * 4: (6, 0), (0, 0, 0, 1): (2, 0), (0, 0, 1, 0): (8, 0), (0, 0, 1, 1): (8, 0), (1,) * 4: (6, 0)})
        self.check_rows(lot_of(DENT), 1)
        self.check_rows(lot_of(((0, 0), (4, 0), (0, 3))), 1)

    def test_unlike_words_have_kinds_at_ratio_1(self):
        rows = self.check_rows(lot_of(*RING), 1)
        self.assertEqual({kind for (word, four), kind in rows.items() if word == (0, 0, 0, 1)}, {1, -1})
        self.assertEqual({kind for (word, four), kind in rows.items() if word == (0, 0, 0, 0)}, {0})
        for one in ((1, 1), [1, 1]):
            self.assertEqual(row_of(TENT, BASE, one), row_of(lot=TENT, posts=BASE, ratio=1))

    def test_misfits(self):
        box = lot_of(cell(0, 0))
        corner = lot_of(((0, 0), (4, 0), (0, 3)))
        for lot, posts, ratio in ((TENT, BASE, 2), (TENT, BASE[::-1], 1), (TENT, [(0, 0)] * 4, 1), (TENT, [(2, 0)] * 4, 1),
                                  (TENT, [(0, 0), (1, 0), (1, 1), (0, 1)], 1), (box, cell(0, 0), 1), (box, cell(1, 1, 2), 1),
                                  (corner, [(0, 0), ((12, 7), 0), ((12, 7), (12, 7)), (0, (12, 7))], 1),
                                  (box, [(1, 0), (4, 1), (3, 4), (0, 3)], 1), (box, [(1, 0), (3, 0), (3, 4), (1, 4)], 2)):
            self.check_part(Misfit, "posts", row_of, lot, posts, ratio)

    def test_sign_0_alone(self):
        # Each post is within a side, and the frame can be moved: the sign is 0.
        lot = lot_of(((0, 0), (8, 0), (8, 4), (0, 4)))
        posts = [(1, 0), (5, 0), (5, 4), (1, 4)]
        self.assertIs(stands(lot, posts, 1), True)
        self.assertEqual([len(sides) for sides in places(lot, posts)], [1] * 4)
        self.check_part(Misfit, "posts", row_of, lot, posts, 1)

    def test_errors(self):
        for bad in NO_LOTS:
            self.check_part(BadLot, "lot", row_of, bad, None, None)
        for bad in NO_POSTS:
            self.check_part(BadPoint, "posts", row_of, TENT, bad, None)
        for bad in NO_POINTS:
            self.check_part(BadPoint, "posts", row_of, TENT, [bad] + list(BASE[1:]), 0)
        for bad in NO_RATIOS:
            self.check_part(BadRatio, "ratio", row_of, TENT, [(0, 0)] * 4, bad)


if __name__ == "__main__":
    unittest.main()

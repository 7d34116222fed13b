import itertools
import unittest

from oddsquares.errors import BadLot, BadRatio, TooMany
from oddsquares.fences import Fence
from oddsquares.fours import on_four
from oddsquares.frames import places, row_of, stands
from oddsquares.judged import Barred, Plain, judged
from oddsquares.papers import Denial, Paper
from oddsquares.triangles import over_base
from tests.shapes import DENT, KITE, STRAIGHT, TRI, cell, comb, star
from tests.told import LARGE, RING, lot_of, moved
from tests.values import NO_RATIOS, Raises

NO_LOTS = (None, True, 0, "", [], [Fence(TRI)], Fence(TRI), TRI, object())
RATIOS = (1, 2, (1, 2), (10 ** 30 + 1, 10 ** 30), (1, 10 ** 9), 10 ** 9, (7, 5))
PLAIN = ((TRI,), (KITE,), (DENT,), RING, (LARGE, TRI), (TRI, moved(TRI, 10, 1, 2)), (((0, 0), (9, 1), (12, 7), (3, 8)),),
         (TRI, moved(KITE, 5, 2, (1, 2))), (((-30, -20), (50, -25), (10, 60)), TRI, ((5, 4), (9, 5), (4, 9))))
RIGHT = ((0, 0), (4, 0), (0, 3))
# Lots with a bar for each ratio: right angles, boxes, sides in parallel.
BARRED = ((RIGHT,), (cell(0, 0),), (((0, 0), (8, 0), (8, 3), (0, 3)),), (cell(0, 0), cell(9, 0)), (TRI, moved(RIGHT, 9, 0)),
          (comb(3),))


def own_rows(lot, ratio):
    """The rows by going through all fours, or None if there is a bar."""
    rows = set()
    for four in itertools.product(lot.sides, repeat=4):
        told = on_four(lot, four, ratio)
        if told.word == "many":
            return None
        if told.word == "one":
            if any(len(sides) > 1 for sides in places(lot, told.posts)):
                return None
            rows.add(row_of(lot, told.posts, ratio))
    return tuple(sorted(rows))


def kinds_of(rows):
    """For each word the kinds of its rows."""
    kinds = {}
    for word, four, posts, kind in rows:
        kinds.setdefault(word, []).append(kind)
    return kinds


class JudgedTest(Raises, unittest.TestCase):
    def check_rows(self, lot, ratio):
        told = judged(lot, ratio)
        rows = own_rows(lot, ratio)
        if rows is None:
            self.check_bar(lot, ratio, told)
        else:
            self.assertEqual(told, Plain(rows))
            self.check_facts(lot, ratio, rows)
        return told

    def check_bar(self, lot, ratio, told):
        self.assertIs(type(told), Barred)
        self.assertEqual((told.word, bool(told)), ("barred", False))
        self.assertIs(stands(lot, told.posts, ratio), True)
        self.assertIs(type(told.post), int)
        self.assertEqual(len(places(lot, told.posts)[told.post]), 2)
        self.assertEqual(judged(lot=lot, ratio=ratio), told)

    def check_facts(self, lot, ratio, rows):
        kinds = kinds_of(rows)
        for word in kinds:
            self.assertEqual(sum(kinds[word]), 0)
            if ratio != 1 or len(set(word)) > 1:
                self.assertNotIn(0, kinds[word])
        if ratio == 1:
            for fence in range(len(lot)):
                self.assertEqual(len(kinds[(fence,) * 4]) % 2, 1)
                self.assertEqual(set(kinds[(fence,) * 4]), {0})

    def test_rows(self):
        for rows in PLAIN:
            lot = lot_of(*rows)
            for ratio in RATIOS if len(lot.sides) < 5 else (1, (7, 5)):
                with self.subTest(rows=rows, ratio=ratio):
                    self.assertIs(bool(self.check_rows(lot, ratio)), True)

    def test_bars(self):
        for rows in BARRED:
            lot = lot_of(*rows)
            for ratio in (1, 2, (1, 3)):
                with self.subTest(rows=rows, ratio=ratio):
                    told = judged(lot, ratio)
                    self.check_bar(lot, ratio, told)
                    if len(lot.sides) < 6:
                        self.assertIsNone(own_rows(lot, ratio))

    def test_sides_in_parallel(self):
        # Between y = 0 and y = 3 a square 3 wide stands only if the upper side is at least as long.
        for wide, word in ((2, "plain"), (3, "barred"), (4, "barred")):
            lot = lot_of(((-7, 0), (9, 0), (wide, 3), (0, 3)))
            self.assertEqual(self.check_rows(lot, 1).word, word)

    def test_a_right_angle_within_another_fence(self):
        lot = lot_of(((0, 0), (7, -1), (9, 8), (3, 6)), ((3, 2), (4, 2), (4, 3)))
        for ratio in (1, 2, (1, 2)):
            self.assertIs(bool(self.check_rows(lot, ratio)), False)

    def test_straight_corners(self):
        self.assertEqual(self.check_rows(lot_of(STRAIGHT), 1).word, "plain")
        # The square over the base of the tent has its posts at 4/7 and 16/7.
        for place, word in (((4, 7), "barred"), ((16, 7), "barred"), (1, "plain"), (3, "plain")):
            lot = lot_of(((0, 0), (place, 0), (4, 0), (1, 3)))
            told = judged(lot, 1)
            self.assertEqual(told.word, word)
            if not told:
                self.check_bar(lot, 1, told)

    def test_triangles(self):
        for corners, squares in ((TRI, 3), (((0, 0), (4, 0), (6, 3)), 1), (((0, 0), (9, 1), (4, 8)), 3)):
            lot = lot_of(corners)
            for ratio in RATIOS:
                rows = judged(lot, ratio).rows
                self.assertEqual(len(rows), squares if ratio == 1 else 2 * squares)
                told = [over_base(lot.fences[0], base, ratio) for base in range(3)]
                for posts in told:
                    if posts is not None:
                        self.assertIn(row_of(lot, posts, ratio), rows)
                        self.assertEqual(row_of(lot, posts, ratio)[3], 0 if ratio == 1 else 1)

    def test_fences_left_out(self):
        for rows in (RING, (LARGE, TRI), PLAIN[-1]):
            lot = lot_of(*rows)
            for ratio in (1, 2):
                all_rows = judged(lot, ratio).rows
                for fence in range(len(rows)):
                    kept = [number for number in range(len(rows)) if number != fence]
                    left = judged(lot.only(kept), ratio).rows
                    told = [(tuple(kept[letter] for letter in word), tuple((kept[at], side) for at, side in four), posts, kind)
                            for word, four, posts, kind in left]
                    self.assertEqual(told, [row for row in all_rows if fence not in row[0]])

    def test_other_ratio(self):
        # Told from p1 the frames of a ratio are those of 1 / ratio, with the other kind.
        for rows in (RING, (KITE,), (LARGE, TRI)):
            lot = lot_of(*rows)
            frames = {frozenset(row[2]): row[3] for row in judged(lot, 2).rows}
            self.assertEqual(frames, {frozenset(row[2]): -row[3] for row in judged(lot, (1, 2)).rows})

    def test_16_sides(self):
        for rows in ((star(16, 9),), (star(8, 9), star(8, 9, (3, 30), 4)), (star(4, 3), star(4, 3, (9, 0)), star(8, 30, seed=3))):
            lot = lot_of(*rows)
            for ratio in (1, (10 ** 30 + 1, 10 ** 30)):
                told = judged(lot, ratio)
                self.assertIs(bool(told), True)
                self.check_facts(lot, ratio, told.rows)
                for row in told.rows[:20]:
                    self.assertEqual(row_of(lot, row[2], ratio), row)
                self.assertEqual([row[:2] for row in told.rows], sorted({row[:2] for row in told.rows}))
        self.check_bar(lot_of(comb(7)[:16]), 1, judged(lot_of(comb(7)[:16]), 1))

    def test_far_away_and_small(self):
        # A small fence and a large one, and a small lot far from (0, 0): nothing is rounded away.
        small = moved(TRI, 1, 1, (1, 10 ** 15))
        self.assertEqual(self.check_rows(lot_of(LARGE, small), 1).word, "plain")
        self.check_rows(lot_of(moved(KITE, 10 ** 29, -10 ** 29, (1, 10 ** 12))), (7, 5))

    def test_papers(self):
        told = judged(lot_of(TRI), [2, 1])
        self.assertIsInstance(told, Paper)
        self.assertNotIsInstance(told, Denial)
        self.assertEqual((told.word, told.parts, bool(told)), ("plain", (told.rows,), True))
        self.assertEqual(Plain(rows=[list(row) for row in told.rows]), told)
        self.assertIsInstance(judged(lot_of(RIGHT), 1), Denial)
        self.assertEqual(Barred(post=1, posts=[[1]]).parts, (((1,),), 1))

    def test_errors(self):
        large = lot_of(star(17, 9))
        for bad in NO_LOTS:
            self.check_part(BadLot, "lot", judged, bad, None)
        for bad in NO_RATIOS:
            self.check_part(BadRatio, "ratio", judged, large, bad)
        self.check_raises(TooMany, {"what": "sides", "most": 16}, judged, large, 1)
        self.check_raises(TooMany, {"what": "sides", "most": 16}, judged, lot_of(star(9, 5), star(8, 5, (20, 0))), 1)


if __name__ == "__main__":
    unittest.main()

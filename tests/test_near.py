import unittest
from fractions import Fraction

from oddsquares.errors import BadLot, BadRatio, Misfit, TooMany
from oddsquares.fences import Fence
from oddsquares.judged import Barred, judged
from oddsquares.likelots import with_straight
from oddsquares.lots import Lot
from oddsquares.near import Far, Near, near, near_ratio
from oddsquares.nudged import nudged
from oddsquares.papers import Denial, Paper
from tests.shapes import DENT, KITE, STRAIGHT, TRI, cell, comb, nested, star
from tests.told import BENT, LARGE, RING, lot_of, moved
from tests.values import NO_RATIOS, Raises, in_lists

NO_LOTS = (None, True, 0, "", [], [Fence(TRI)], Fence(TRI), TRI, object(), Lot)
RIGHT = ((0, 0), (4, 0), (0, 3))
PAIR = (TRI, ((20, 0), (24, 1), (21, 5)))
# Plain for 1; at ratio 2 the frame over the side 0 of the tent has a post at this corner.
BARRED_AT_2 = with_straight(lot_of(TRI), 0, 0, (2, 11))
PLAIN = ((TRI,), (KITE,), (DENT,), (BENT,), (STRAIGHT,), RING, (LARGE, TRI), PAIR, (TRI, moved(KITE, 5, 2, (1, 2))), (star(7, 9),))
RATIOS = (2, (1, 2), (3, 2), (9, 8), (7, 8), (33, 32), (31, 32), 10, (1, 10), (10 ** 30 + 1, 10 ** 30), (1, 10 ** 9), 10 ** 9)


def beside(square, rows):
    """The numbers of the rows whose four is that of the square, told from any of its sides on."""
    rounds = [square[1][k:] + square[1][:k] for k in range(4)]
    return [number for number, row in enumerate(rows) if row[1] in rounds]


def own_near(lot, ratio):
    """What near tells, by going through both judged answers."""
    told = judged(lot, 1)
    if not told:
        return told
    others = judged(lot, ratio)
    if not others:
        return others
    triples, passed = [], []
    for number, square in enumerate(told.rows):
        found = {others.rows[k][3]: k for k in beside(square, others.rows)}
        if len(beside(square, others.rows)) != 2 or sorted(found) != [-1, 1]:
            return Far(number)
        triples.append((number, found[1], found[-1]))
        passed += beside(square, others.rows)
    return Near(triples) if sorted(passed) == list(range(len(others.rows))) else Far(len(triples))


class NearTest(Raises, unittest.TestCase):
    def check(self, lot, ratio):
        told = near(lot, ratio)
        self.assertEqual(told, own_near(lot, ratio))
        self.assertEqual(near(ratio=ratio, lot=lot), told)
        return told

    def test_ratios(self):
        words = set()
        for rows in PLAIN:
            lot = lot_of(*rows)
            many = len(judged(lot, 1).rows)
            for ratio in RATIOS:
                with self.subTest(rows=rows, ratio=ratio):
                    told = self.check(lot, ratio)
                    words.add(told.word if told.word != "far" else told.square == many)
                    if ratio == (10 ** 30 + 1, 10 ** 30):
                        self.assertEqual((told.word, len(told.triples)), ("near", many))
        self.assertEqual(words, {"near", "barred", True, False})

    def test_far_squares(self):
        # One row beside the square, two of the same kind, none.
        lot = lot_of(KITE)
        self.assertEqual(self.check(lot, (3, 2)), Far(0))
        self.assertEqual(self.check(lot, (9, 8)), Far(2))
        self.assertEqual(self.check(lot_of(*PAIR), 10), Far(6))
        seen = set()
        for rows in PLAIN:
            lot = lot_of(*rows)
            for ratio in RATIOS + (3, 4, (1, 3), (5, 4)):
                told = self.check(lot, ratio)
                squares = judged(lot, 1).rows
                if told.word == "far" and told.square < len(squares):
                    others = judged(lot, ratio).rows
                    seen.add(tuple(others[k][3] for k in beside(squares[told.square], others)))
        self.assertLessEqual({(), (1,), (-1,)}, seen)

    def test_barred(self):
        for rows in ((RIGHT,), (cell(0, 0),), (TRI, moved(RIGHT, 9, 0))):
            lot = lot_of(*rows)
            for ratio in (2, (1, 2), (9, 8)):
                self.assertEqual(self.check(lot, ratio), judged(lot, 1))
        told = self.check(BARRED_AT_2, 2)
        self.assertEqual((type(told), told.posts[told.post]), (Barred, ((8, 11), (0, 1))))
        self.assertEqual(self.check(BARRED_AT_2, (9, 8)).word, "near")
        # Barred for 1, not for 2: it is told for 1.
        lot = with_straight(lot_of(TRI), 0, 0, (1, 7))
        self.assertIs(bool(judged(lot, 2)), True)
        self.assertEqual(near(lot, 2), judged(lot, 1))

    def test_16_sides(self):
        for rows in ((star(16, 9),), (star(8, 9), star(8, 9, (3, 30), 4)), (star(4, 3), star(4, 3, (9, 0)), star(8, 30, seed=3))):
            for ratio in ((9, 8), (10 ** 30 - 1, 10 ** 30)):
                self.check(lot_of(*rows), ratio)

    def test_papers(self):
        told = near(lot_of(TRI), [2, 1])
        self.assertEqual(told, Near(triples=[[0, 0, 2], [1, 4, 1], [2, 3, 5]]))
        self.assertEqual((told.word, told.parts, bool(told)), ("near", (told.triples,), True))
        self.assertNotIsInstance(told, Denial)
        self.assertIsInstance(told, Paper)
        far = Far(square=[1])
        self.assertEqual((far.word, far.parts, far.square, bool(far)), ("far", ((1,),), (1,), False))
        self.assertIsInstance(far, Denial)
        self.assertEqual(Near(in_lists(told.triples)), told)

    def test_errors(self):
        large = lot_of(star(17, 9))
        for bad in NO_LOTS:
            self.check_part(BadLot, "lot", near, bad, None)
        for bad in NO_RATIOS:
            self.check_part(BadRatio, "ratio", near, large, bad)
        for one in (1, (1, 1), [1, 1]):
            self.check_part(Misfit, "ratio", near, large, one)
            self.check_part(Misfit, "ratio", near, lot_of(RIGHT), one)
        self.check_raises(TooMany, {"what": "sides", "most": 16}, near, large, 2)
        self.check_raises(TooMany, {"what": "sides", "most": 16}, near, lot_of(star(9, 5), star(8, 5, (20, 0))), 2)


class NearRatioTest(Raises, unittest.TestCase):
    def check(self, lot):
        told = near_ratio(lot)
        halving = told[1].bit_length() - 1
        self.assertEqual(told, (2 ** halving + 1, 2 ** halving))
        for k in range(1, halving + 1):
            self.assertIs(bool(near(lot, (2 ** k + 1, 2 ** k))), k == halving)
        self.assertEqual(near_ratio(lot=Lot([Fence(in_lists(fence.corners)) for fence in lot.fences])), told)
        return halving

    def test_first_ratios(self):
        halvings = [self.check(lot_of(*rows)) for rows in PLAIN]
        self.assertEqual(halvings[:2], [1, 5])
        self.assertEqual(self.check(lot_of(*PAIR)), 1)
        self.assertEqual(self.check(BARRED_AT_2), 1)

    def test_much_nearer(self):
        # A straight corner beside a post of a square, at the share 1/7.
        deep = []
        for apart in (10 ** 3, 10 ** 6, 10 ** 12, 10 ** 17):
            share = Fraction(1, 7) + Fraction(1, apart)
            deep.append(self.check(with_straight(lot_of(TRI), 0, 0, (share.numerator, share.denominator))))
        self.assertEqual(deep, sorted(deep))
        self.assertGreater(deep[-1], 50)

    def test_too_many(self):
        share = Fraction(1, 7) + Fraction(1, 10 ** 20)
        lot = with_straight(lot_of(TRI), 0, 0, (share.numerator, share.denominator))
        self.check_raises(TooMany, {"what": "halvings", "most": 60}, near_ratio, lot)
        self.assertIs(bool(near(lot, (2 ** 60 + 1, 2 ** 60))), False)
        self.assertIs(bool(near(lot, (2 ** 70 + 1, 2 ** 70))), True)

    def test_the_last_halving(self):
        found = set()
        for part in (20, 40, 60, 80, 100, 120, 140, 160, 320):
            share = Fraction(1, 7) + Fraction(part, 10 ** 21)
            lot = with_straight(lot_of(TRI), 0, 0, (share.numerator, share.denominator))
            first = min(k for k in range(50, 70) if near(lot, (2 ** k + 1, 2 ** k)))
            found.add(first)
            if first > 60:
                self.check_raises(TooMany, {"what": "halvings", "most": 60}, near_ratio, lot)
            else:
                self.assertEqual(near_ratio(lot), (2 ** first + 1, 2 ** first))
        self.assertLessEqual({59, 60, 61}, found)

    def test_16_sides(self):
        self.check(lot_of(star(16, 9)))
        self.check(lot_of(star(8, 9), star(8, 9, (3, 30), 4)))

    def test_nudged_boxes(self):
        # Nearly not plain: many squares, and many halvings.
        self.assertGreater(self.check(nudged(lot_of(cell(0, 0)), 1, (1, 10 ** 12))), 40)
        self.assertGreater(self.check(nudged(lot_of(cell(0, 0), cell(2, 1, 1)), 1, (1, 10 ** 6))), 20)
        for rows in (nested(4), (comb(7)[:16],)):
            lot = nudged(lot_of(*rows), 1, (1, 10 ** 12))
            told = near_ratio(lot)
            self.assertIs(bool(near(lot, told)), True)
            self.assertIs(bool(near(lot, (told[0] + told[1], 2 * told[1]))), True)
            self.assertIs(bool(near(lot, ((told[1] >> 1) + 1, told[1] >> 1))), False)
            self.check_raises(TooMany, {"what": "halvings", "most": 60}, near_ratio, nudged(lot_of(*rows), 1, (1, 10 ** 20)))

    def test_errors(self):
        for bad in NO_LOTS:
            self.check_part(BadLot, "lot", near_ratio, bad)
        for rows in ((star(17, 9),), (cell(0, 0), cell(9, 0), cell(0, 9), cell(9, 9), cell(20, 20))):
            self.check_raises(TooMany, {"what": "sides", "most": 16}, near_ratio, lot_of(*rows))
        for rows in ((RIGHT,), (cell(0, 0),), (TRI, moved(RIGHT, 9, 0))):
            self.check_part(Misfit, "lot", near_ratio, lot_of(*rows))


if __name__ == "__main__":
    unittest.main()

import unittest

from oddsquares.chains import joined
from oddsquares.check_lives import shows_lives
from oddsquares.emptied import Emptied, Left, emptied
from oddsquares.errors import BadLot, BadNumber, BadPoint, BadRatio, Misfit, NoFilm, TooMany
from oddsquares.fences import Fence
from oddsquares.judged import judged
from oddsquares.lives import Jammed, judged_lives
from oddsquares.lots import Lot
from oddsquares.motions import blown
from oddsquares.papers import Denial, Paper
from oddsquares.sums import sums
from tests.shapes import KITE, TRI, cell, star
from tests.told import LARGE, RING, lot_of, moved
from tests.values import NO_INTEGERS, NO_NUMBERS, NO_POINTS, NO_RATIOS, Raises, fraction, in_lists, pair

NO_LOTS = (None, True, 0, "", [], [Fence(TRI)], Fence(TRI), TRI, object(), Lot)
NEST = lot_of(LARGE, TRI)
WIDE = ((-30, -20), (50, -25), (10, 60))
RIGHT = ((0, 0), (4, 0), (0, 3))
# Lots, a fence, a spot: the fence stays within itself, or comes nearer to a spot outside.
CASES = ((NEST, 1, (1, 1)), (NEST, 1, ((4, 3), (1, 2))), (NEST, 1, (1, 3)), (lot_of(*RING), 1, (6, 4)), (lot_of(LARGE, KITE), 1, (2, 1)),
         (lot_of(TRI, moved(KITE, 5, 2, (1, 2))), 0, (1, 1)), (lot_of(TRI, moved(TRI, 10, 1, 2)), 1, (12, 3)),
         (lot_of(WIDE, TRI, moved(TRI, 6, 5, (1, 2))), 2, (7, 6)), (lot_of(WIDE, TRI, moved(TRI, 6, 5, (1, 2))), 1, (1, 1)))
# Jams: the lot is not plain, at an inner moment, the last lot is not plain.
AT_FIRST = (lot_of(LARGE, RIGHT), 1, (1, 1), (1, 2), 1)
BETWEEN = (lot_of(((2, -6), (-6, -4), (0, 6), (6, 2)), ((1, 2), (2, 2), (-2, -1))), 1, (1, 1), 2, 1)
AT_LAST = (lot_of(((-5, 4), (0, -1), (-2, -1)), ((1, 2), (2, 1), (-1, 2))), 1, (0, -2), (1, 2), 1)
JAMS = ((AT_FIRST, "first"), (BETWEEN, "inner"), (AT_LAST, "last"),
        ((lot_of(((1, -1), (1, -6), (-5, -2)), ((-2, 0), (0, 2), (2, 1))), 1, (-2, 2), (1, 3), 1), "inner"),
        ((lot_of(((0, -3), (5, 0), (-1, -5)), ((-1, 2), (-2, 0), (1, -1))), 1, (0, 1), (1, 3), (1, 2)), "inner"))


def is_mixed(row, fence):
    return fence in row[0] and set(row[0]) != {fence}


class EmptiedTest(Raises, unittest.TestCase):
    def check(self, lot, fence, spot, share, ratio):
        told = emptied(lot, fence, spot, share, ratio)
        self.assertEqual(emptied(ratio=pair(fraction(ratio)), share=list(pair(fraction(share))), spot=list(spot), fence=fence, lot=lot), told)
        film = blown(lot, fence, spot, share)
        living = judged_lives(film, ratio)
        if not living:
            self.assertEqual(told, living)
            return "jammed"
        left = tuple(row for row in judged(film.at(1), ratio).rows if is_mixed(row, fence))
        if left:
            self.assertEqual((told, told.word, bool(told)), (Left(left), "left", False))
            return "left"
        self.assertIs(type(told), Emptied)
        self.check_pairs(told.pairs, lot, fence, film, ratio)
        return len(told.pairs)

    def check_pairs(self, pairs, lot, fence, film, ratio):
        """Beside the partners of the film; each mixed row once, with one of its word and of the other kind."""
        rows = judged(lot, ratio).rows
        mixed = [number for number, row in enumerate(rows) if is_mixed(row, fence)]
        self.assertEqual(sorted(number for both in pairs for number in both), mixed)
        self.assertEqual(pairs, tuple(sorted((min(both), max(both)) for both in pairs)))
        partners = dict(joined(film, ratio).pairs)
        for one, other in pairs:
            self.assertEqual(partners[(0, one)], (0, other))
            self.assertEqual(rows[one][0], rows[other][0])
            self.assertEqual(sorted((rows[one][3], rows[other][3])), [-1, 1])

    def test_shares(self):
        words = set()
        for lot, fence, spot in CASES:
            for ratio in (1, 2, (2, 3)) if len(lot.sides) < 9 else (1, (3, 2)):
                for share in ((9, 10), (1, 2), (1, 10), (1, 10 ** 30)):
                    with self.subTest(lot=[row.corners for row in lot.fences], ratio=ratio, share=share):
                        words.add(self.check(lot, fence, spot, share, ratio))
        self.assertLessEqual({"left", 1, 2, 3, 5}, words)

    def test_ratios(self):
        for ratio in ((1, 9), 9, (1, 10 ** 9), (10 ** 30 + 1, 10 ** 30)):
            words = {self.check(NEST, 1, (1, 1), share, ratio) for share in ((1, 2), (1, 100), (1, 10 ** 12))}
            self.assertNotIn("jammed", words)
        self.assertEqual(len(emptied(NEST, 1, (1, 1), (1, 10), (10 ** 30 + 1, 10 ** 30)).pairs), 10)

    def test_small_shares_leave_none(self):
        # As no frame has one post at the spot and its three others elsewhere.
        for lot, fence, spot in CASES:
            self.assertIsInstance(self.check(lot, fence, spot, (1, 10 ** 12), 1), int)

    def test_kept_size_and_grown(self):
        self.assertEqual(emptied(NEST, 1, (1, 1), 1, 1), Left([row for row in judged(NEST, 1).rows if is_mixed(row, 1)]))
        self.assertEqual(self.check(NEST, 1, (1, 1), 2, 1), "left")
        # The large fence blown up: then nothing stands on both.
        self.assertEqual(self.check(NEST, 0, (1, 1), 100, 1), 5)

    def test_no_mixed_rows(self):
        far = lot_of(TRI, moved(TRI, 100, 0))
        for fence, spot in ((0, (1, 1)), (1, (101, 1))):
            for ratio in (1, 2, (1, 2)):
                self.assertEqual(emptied(far, fence, spot, (1, 2), ratio), Emptied([]))
                self.assertEqual(self.check(far, fence, spot, (1, 2), ratio), 0)
        # A fence alone, also if it is blown about a point on it.
        for spot in ((1, 1), (0, 0), (2, 0)):
            self.assertEqual(emptied(lot_of(TRI), 0, spot, (1, 2), 1), Emptied([]))
        # Rows of the other fences alone are not mixed for this one.
        lot = lot_of(LARGE, TRI, moved(TRI, 200, 0))
        self.assertIn((0, 0, 0, 1), [word for word, many, total in sums(judged(lot, 1))])
        self.assertEqual(emptied(lot, 2, (201, 1), (1, 2), 1), Emptied([]))

    def test_jams(self):
        moments = set()
        for parts, word in JAMS:
            self.assertEqual(self.check(*parts), "jammed")
            told = emptied(*parts)
            self.assertIs(type(told), Jammed)
            self.assertEqual("first" if told.moment == (0, 1) else "last" if told.moment == (1, 1) else "inner", word)
            self.assertIs(shows_lives(blown(*parts[:4]), parts[4], told), True)
            moments.add(word)
        self.assertEqual(moments, {"first", "inner", "last"})

    def test_not_safe(self):
        for lot, fence, spot, share in ((NEST, 1, (50, 50), (1, 10)), (NEST, 0, (1, 1), (1, 100)), (lot_of(TRI, moved(TRI, 9, 1)), 1, (-30, 1), (1, 2)),
                                        (lot_of(LARGE, RIGHT), 1, (50, 50), (1, 10))):
            for ratio in (1, 2):
                self.check_part(Misfit, "film", emptied, lot, fence, spot, share, ratio)

    def test_14_sides_and_15(self):
        outer = star(8, 30, seed=3)
        lot = lot_of(outer, star(6, 3))
        self.assertIsInstance(self.check(lot, 1, (0, 0), (1, 10), 1), int)
        lot = lot_of(outer, star(7, 3))
        self.check_raises(TooMany, {"what": "sides", "most": 14}, emptied, lot, 1, (0, 0), (1, 10), 1)
        # A film that is not safe is told ahead of it.
        self.check_part(Misfit, "film", emptied, lot, 1, (90, 0), (1, 10), 1)

    def test_papers(self):
        told = emptied(NEST, 1, (1, 1), (1, 10), 1)
        self.assertEqual((told.word, told.parts, bool(told), isinstance(told, Paper)), ("emptied", (told.pairs,), True, True))
        self.assertNotIsInstance(told, Denial)
        self.assertEqual(Emptied(pairs=in_lists(told.pairs)), told)
        left = Left(rows=[[1, [2]]])
        self.assertEqual((left.word, left.parts, left.rows, bool(left)), ("left", (((1, (2,)),),), ((1, (2,)),), False))
        self.assertIsInstance(left, Denial)

    def test_errors(self):
        for bad in NO_LOTS:
            self.check_part(BadLot, "lot", emptied, bad, None, None, None, None)
        for bad in NO_INTEGERS + (-1, 2):
            self.check_part(BadNumber, "fence", emptied, NEST, bad, None, None, None)
        for bad in NO_POINTS:
            self.check_part(BadPoint, "spot", emptied, NEST, 1, bad, None, None)
        for bad in NO_NUMBERS + (0, -1, (0, 1), (-1, 2)):
            self.check_part(BadNumber, "share", emptied, NEST, 1, (1, 1), bad, None)
        # Ahead of what Film raises, which comes ahead of the film that is not safe, and of the sides.
        for bad in NO_RATIOS:
            self.check_part(BadRatio, "ratio", emptied, NEST, 1, (1, 1), 100, bad)
            self.check_part(BadRatio, "ratio", emptied, NEST, 1, (50, 50), (1, 10), bad)
        large = lot_of(cell(0, 0, 9), star(12, 3, (4, 4)))
        for lot, share in ((NEST, 6), (large, 2)):
            self.check_raises(NoFilm, {"word": "last", "fence": 0, "side": 0}, emptied, lot, 1, (1, 1), share, 1)


if __name__ == "__main__":
    unittest.main()

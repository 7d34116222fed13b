import itertools
import unittest

from oddsquares.boxes import likely_fours
from oddsquares.films import both_ends
from oddsquares.fours import on_four
from tests.oracles import SlowFilm
from tests.shapes import DENT, KITE, TRI, cell
from tests.told import GROWN, LARGE, MEET, MOVED, PART, RING, lot_of, moved
from tests.values import pair

RATIOS = ((1, 1), (2, 1), (1, 2), (7, 5), (1, 10 ** 9))


class BoxesTest(unittest.TestCase):
    def test_all_fours_of_lots_that_bear_frames(self):
        for rows in ((TRI,), (KITE,), (DENT,), (cell(0, 0),), (cell(-3, 5, 8),), ((((0, 0), (8, 0), (8, 4), (0, 4))),), RING[1:],
                     (LARGE, TRI), (((0, 0), (4, 4), (0, 8), (-4, 4)),), (moved(KITE, 10 ** 29, -10 ** 29, (1, 10 ** 9)),)):
            lot = lot_of(*rows)
            for ratio in RATIOS[:3] if len(lot.sides) > 4 else RATIOS:
                likely = set(likely_fours([[lot.side(at)] for at in lot.sides], ratio))
                for four in itertools.product(range(len(lot.sides)), repeat=4):
                    if on_four(lot, [lot.sides[number] for number in four], ratio):
                        self.assertIn(four, likely)

    def test_all_fours_of_films_that_bear_frames(self):
        for film, ratio in ((GROWN, (1, 1)), (MEET, (1, 1)), (PART, (2, 1))):
            slow = SlowFilm(film, ratio)
            likely = set(likely_fours(both_ends(film), ratio))
            for four in itertools.product(range(len(film.sides)), repeat=4):
                names = [film.sides[number] for number in four]
                if any(slow.posts(names, place) for place in slow.found(names)):
                    self.assertIn(four, likely)

    def test_few_are_left(self):
        # Sides that are small and far from one another bear no frames together.
        lot = lot_of(TRI, moved(TRI, 100, 37))
        self.assertLess(len(likely_fours([[lot.side(at)] for at in lot.sides], (1, 1))), 6 ** 4 // 3)
        self.assertEqual(len(set(likely_fours(both_ends(MOVED), pair(1)))), len(likely_fours(both_ends(MOVED), pair(1))))


if __name__ == "__main__":
    unittest.main()

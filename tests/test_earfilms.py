import unittest

from oddsquares.earfilms import ear_film
from oddsquares.ears import cut, ears
from oddsquares.errors import BadEars, BadLot, BadNumber, TooMany
from oddsquares.fences import Fence
from oddsquares.films import Film
from oddsquares.lives import judged_lives
from oddsquares.safe import Safe, judged_film
from tests.shapes import DENT, KITE, STRAIGHT, TRI, cell, comb, star
from tests.told import RING, lot_of
from tests.values import NO_INTEGERS, Raises

LOTS = ((KITE,), (DENT,), (STRAIGHT,), (comb(4),), (star(9, 5),), (cell(0, 0), cell(9, 0)),
        (star(7, 9), ((20, 20), (24, 20), (21, 23))),
        (((0, 0), (60, 0), (60, 60), (50, 70), (0, 60)), cell(10, 10)), RING)
NO_LOTS = (None, True, 0, "", [], [Fence(TRI)], Fence(TRI), TRI, object())


class EarFilmTest(Raises, unittest.TestCase):
    def check_ear(self, lot, fence, corner):
        film = ear_film(lot, fence, corner)
        corners = lot.fences[fence].corners
        many = len(corners)
        first = [row.corners for row in lot.fences]
        last = list(first)
        first[fence] = [corners[k] for k in range(many) for twice in range(2 if k == corner else 1)]
        last[fence] = list(first[fence])
        last[fence][corner], last[fence][corner + 1] = corners[(corner - 1) % many], corners[(corner + 1) % many]
        self.assertEqual(film, Film(first, last))
        self.assertEqual(ear_film(corner=corner, fence=fence, lot=lot), film)
        self.assertEqual((film.at(0), film.at(1)), (lot, cut(lot, fence, corner)))
        self.assertEqual(judged_film(film), Safe())
        for moment in (0, 1):
            points = [at for at in film.sides if film.placed(at, moment) is None]
            told = [corner] if moment == 0 else sorted([(corner - 1) % (many + 1), (corner + 1) % (many + 1)])
            self.assertEqual(points, [(fence, side) for side in told])
        return film

    def test_each_ear(self):
        seen = set()
        for rows in LOTS:
            lot = lot_of(*rows)
            for fence in range(len(lot)):
                for corner in ears(lot, fence):
                    self.check_ear(lot, fence, corner)
                    seen.add("first" if corner == 0 else "last" if corner == len(lot.fences[fence]) - 1 else "other")
        self.assertEqual(seen, {"first", "last", "other"})

    def test_no_life_is_born_as_a_point(self):
        for rows in LOTS[:3]:
            lot = lot_of(*rows)
            for corner in ears(lot, 0):
                living = judged_lives(ear_film(lot, 0, corner), 1)
                if living:
                    self.assertTrue(all(len(set(life[4])) == 4 for life in living.lives))

    def test_no_ears(self):
        for rows in LOTS:
            lot = lot_of(*rows)
            for fence in range(len(lot)):
                for corner in range(len(lot.fences[fence])):
                    if corner not in ears(lot, fence):
                        self.check_part(BadEars, "corner", ear_film, lot, fence, corner)
                for bad in NO_INTEGERS + (-1, len(lot.fences[fence])):
                    self.check_part(BadEars, "corner", ear_film, lot, fence, bad)

    def test_39_and_40_corners(self):
        lot = lot_of(star(39, 9))
        film = self.check_ear(lot, 0, ears(lot, 0)[0])
        self.assertEqual(len(film.sides), 40)
        lot = lot_of(star(40, 9))
        self.check_raises(TooMany, {"what": "corners", "most": 40}, ear_film, lot, 0, ears(lot, 0)[0])
        no_ear = min(set(range(40)) - set(ears(lot, 0)))
        self.check_part(BadEars, "corner", ear_film, lot, 0, no_ear)

    def test_59_and_60_sides(self):
        lot = lot_of(star(30, 9), star(29, 9, (30, 0)))
        film = self.check_ear(lot, 1, ears(lot, 1)[-1])
        self.assertEqual(len(film.sides), 60)
        lot = lot_of(star(30, 9), star(30, 9, (30, 0)))
        self.check_raises(TooMany, {"what": "sides", "most": 60}, ear_film, lot, 1, ears(lot, 1)[0])
        # Both are too many: the corners are told.
        lot = lot_of(star(40, 9), star(20, 9, (30, 0)))
        self.check_raises(TooMany, {"what": "corners", "most": 40}, ear_film, lot, 0, ears(lot, 0)[0])
        self.check_raises(TooMany, {"what": "sides", "most": 60}, ear_film, lot, 1, ears(lot, 1)[0])

    def test_errors(self):
        lot = lot_of(KITE)
        for bad in NO_LOTS:
            self.check_part(BadLot, "lot", ear_film, bad, None, None)
        for bad in NO_INTEGERS + (-1, 1):
            self.check_part(BadNumber, "fence", ear_film, lot, bad, None)
        for corner in range(3):
            self.check_part(BadEars, "corner", ear_film, lot_of(TRI), 0, corner)


if __name__ == "__main__":
    unittest.main()

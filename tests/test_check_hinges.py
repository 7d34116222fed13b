import unittest

from oddsquares.check_hinges import shows_hinges
from oddsquares.errors import BadLot, BadNumber, BadSides, TooMany
from oddsquares.fences import Fence
from oddsquares.hinges import Hinged, Loose, judged_hinges
from oddsquares.papers import Denial, Paper
from tests.bent import bent_values
from tests.shapes import KITE, TRI, cell, star
from tests.test_hinges import OwnHinges
from tests.told import LARGE, RING, lot_of
from tests.values import NO_NUMBERS, NO_POINTS, Raises, fractions_of, in_lists, pair

TENT = lot_of(TRI)
BOX = lot_of(cell(0, 0))
HINGED = (TENT, (0, 0), (1, 2), (0, (1, 2)))
LOOSE = (TENT, (0, 0), (1, 4), (0, 1))
# The hinge (4, 0) is a corner, its image (4, 2) is none.
ONE_CORNER = (BOX, (0, 0), (1, 2), (1, 1))
NO_PAPERS = (None, True, False, 0, 1, "hinged", (), [], {}, object(), Hinged, Loose, Paper("hinged", ()), Denial("loose", 0, 0),
             Hinged(None), Hinged([]), Hinged([None]), Loose(None, None), Loose((), ()), Loose(0, 0))


def told(x, y):
    return (pair(x), pair(y))


class ShowsHingesTest(Raises, unittest.TestCase):
    def check(self, parts, value, right):
        lot, at, share, turn = parts
        self.assertIs(shows_hinges(lot, at, share, turn, value), right, getattr(value, "parts", value))
        self.assertIs(shows_hinges(value=value, turn=list(turn), share=share, at=list(at), lot=lot), right)

    def test_hinged(self):
        for parts in (HINGED, (lot_of(*RING), (0, 1), (1, 3), (0, (3, 4))), (lot_of(LARGE, KITE), (1, 3), (2, 5), ((1, 2), (-7, 5)))):
            rows = judged_hinges(*parts).rows
            self.check(parts, Hinged(rows), True)
            self.check(parts, Hinged(in_lists(rows)), True)
            for number in range(len(rows)):
                self.check(parts, Hinged(rows[:number] + rows[number + 1:]), False)
                self.check(parts, Hinged(rows[:number + 1] + rows[number:]), False)
                if number:
                    self.check(parts, Hinged(rows[:number - 1] + rows[number:number + 1] + rows[number - 1:number] + rows[number + 1:]), False)
            self.check(parts, Paper("hinged", rows), False)
            self.check(parts, Denial("hinged", rows), False)
            for row in rows[:2]:
                self.check(parts, Loose(row[2], row[3]), False)

    def test_bent(self):
        rows = judged_hinges(*HINGED).rows
        self.assertEqual(len(rows), 1)
        for bent in bent_values(rows):
            self.assertIs(shows_hinges(*HINGED, Hinged(bent)), False, bent)

    def check_all_loose(self, parts):
        """Each right Loose, and for each hinge that is a corner, or has one as its image, q and image exchanged."""
        lot, at, share, turn = parts
        own = OwnHinges(lot, at, share, turn)
        loose = own.loose()
        for q, image in loose:
            self.check(parts, Loose(told(*q), told(*image)), True)
            self.check(parts, Loose(in_lists(told(*q)), in_lists(told(*image))), True)
            self.check(parts, Loose(told(*image), told(*q)), (image, q) in loose)
        points = own.corners + [own.spot] + [point for both in loose for point in both]
        for q in points:
            for image in points:
                self.check(parts, Loose(told(*q), told(*image)), (q, image) in loose)

    def test_loose(self):
        for parts in (LOOSE, ONE_CORNER, (BOX, (0, 1), (1, 2), (1, -1)), (BOX, (0, 1), (1, 2), ((1, 2), (-1, 2))),
                      (lot_of(((0, 0), (4, 0), (4, 1), (0, 1))), (0, 0), (1, 4), (0, -1))):
            self.assertEqual(judged_hinges(*parts).word, "loose")
            self.check(parts, judged_hinges(*parts), True)
            self.check_all_loose(parts)

    def test_hinges_that_are_no_corners(self):
        # Loose by one of them; a hinge that is no corner, nor its image, is not told.
        lot, at, share, turn = ONE_CORNER
        own = OwnHinges(lot, at, share, turn)
        rows = own.rows()
        corners = set(own.corners)
        kept = [row for row in rows if not {fractions_of(row[2]), fractions_of(row[3])} & corners]
        for row in kept:
            self.check(ONE_CORNER, Loose(row[2], row[3]), False)
        self.check(ONE_CORNER, Hinged(rows), False)
        self.check(ONE_CORNER, Hinged([]), False)

    def test_bent_loose(self):
        for parts in (LOOSE, ONE_CORNER):
            q, image = judged_hinges(*parts).parts
            for bent in bent_values(q):
                self.check(parts, Loose(bent, image), False)
            for bent in bent_values(image):
                self.check(parts, Loose(q, bent), False)
            for bad in NO_POINTS[:12]:
                self.check(parts, Loose(bad, image), False)
                self.check(parts, Loose(q, bad), False)
        self.check(LOOSE, Loose((4, 0), (1, 3)), False)
        self.check(LOOSE, Loose(((4, 1), 0), ((1, 1), (3, 1))), False)
        self.check(LOOSE, Loose(((8, 2), (0, 1)), ((1, 1), (3, 1))), False)
        # The spot, and points whose images are off the lot.
        self.check(LOOSE, Loose(told(1, 0), told(1, 0)), False)
        self.check(LOOSE, Loose(told(0, 0), told(1, -1)), False)
        self.check(LOOSE, Denial("loose", told(4, 0), told(1, 3)), False)
        self.check(LOOSE, Paper("loose", told(4, 0), told(1, 3)), False)

    def test_no_papers(self):
        class OtherHinged(Hinged):
            pass

        class OtherLoose(Loose):
            pass

        for value in NO_PAPERS + (OtherHinged(judged_hinges(*HINGED).rows), OtherLoose(*judged_hinges(*LOOSE).parts)):
            for parts in (HINGED, LOOSE, ONE_CORNER):
                self.check(parts, value, False)
        self.check(HINGED, judged_hinges(*LOOSE), False)
        self.check(LOOSE, judged_hinges(*HINGED), False)

    def test_errors(self):
        large = lot_of(star(21, 60, seed=4), star(20, 9))
        for value in (None, judged_hinges(*HINGED), judged_hinges(*LOOSE)):
            for bad in (None, True, [], Fence(TRI), object()):
                self.check_part(BadLot, "lot", shows_hinges, bad, None, None, None, value)
            for bad in (None, True, 0, (), (0, 21), (0, 0, 0), (0, -1)):
                self.check_part(BadSides, "at", shows_hinges, large, bad, None, None, value)
            for bad in NO_NUMBERS[:9] + (0, 1):
                self.check_part(BadNumber, "share", shows_hinges, large, (0, 0), bad, None, value)
            for bad in NO_POINTS[:9] + ((0, 0), (1, (0, 1))):
                self.check_part(BadNumber, "turn", shows_hinges, large, (0, 0), (1, 2), bad, value)
            self.check_raises(TooMany, {"what": "sides", "most": 40}, shows_hinges, large, (0, 0), (1, 2), (0, 1), value)


if __name__ == "__main__":
    unittest.main()

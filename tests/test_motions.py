import unittest

from oddsquares.errors import BadLot, BadNumber, BadPoint, Misfit, NoFilm, NoLot
from oddsquares.fences import Fence
from oddsquares.films import Film
from oddsquares.lives import judged_lives
from oddsquares.lots import Lot
from oddsquares.motions import blown, carried, pushed
from oddsquares.safe import Safe, Touch, judged_film
from tests.shapes import DENT, KITE, STRAIGHT, TRI, cell, cross, minus, star
from tests.told import LARGE, RING, lot_of, moved
from tests.values import NO_INTEGERS, NO_NUMBERS, NO_POINTS, Raises, fraction, fractions_of, in_lists, pair

NO_LOTS = (None, True, 0, "", [], [Fence(TRI)], Fence(TRI), TRI, object(), Lot)
NEST = lot_of(LARGE, TRI)
LOTS = (lot_of(TRI), lot_of(KITE), lot_of(DENT), lot_of(STRAIGHT), NEST, lot_of(*RING), lot_of(TRI, moved(KITE, 9, 9), moved(TRI, -9, 0)))
SHARES = (1, 2, (1, 2), (1, 10 ** 30), (10 ** 30, 10 ** 30 - 1))


def changed(points, change):
    return tuple(tuple(pair(part) for part in change(*fractions_of(point))) for point in points)


def own_pushed(corners, side, share):
    """The corners behind a push: the pushed line is met with the line of the side that leaves it."""
    points = [fractions_of(corner) for corner in corners]
    many = len(points)
    before, start, end, behind = [points[(side + k) % many] for k in (-1, 0, 1, 2)]
    first = tuple(p + fraction(share) * way for p, way in zip(start, minus(start, before)))
    way, leaving = minus(end, start), minus(behind, end)
    far = cross(minus(first, end), way) / cross(leaving, way)
    points[side] = first
    points[(side + 1) % many] = tuple(p + far * part for p, part in zip(end, leaving))
    return tuple(tuple(pair(part) for part in point) for point in points)


def in_line(corners, side):
    """Whether the side that comes to this one, or the one that leaves it, is in one line with it."""
    bends = Fence(corners).bends
    return "straight" in (bends[side], bends[(side + 1) % len(bends)])


class Films(Raises):
    def check_film(self, told, lot, fence, row):
        rows = [other.corners for other in lot.fences]
        self.assertEqual(told.first, tuple(rows))
        self.assertEqual(told.last, tuple(rows[:fence] + [row] + rows[fence + 1:]))
        self.assertEqual(told.at(0), lot)
        self.assertEqual(told, Film(in_lists(told.first), in_lists(told.last)))

    def check_fences(self, call, *rest):
        """BadLot, then BadNumber of the fence, ahead of the others."""
        for bad in NO_LOTS:
            self.check_part(BadLot, "lot", call, bad, *rest)
        for bad in NO_INTEGERS + (-1, 2):
            self.check_part(BadNumber, "fence", call, NEST, bad, *rest[1:])


class CarriedTest(Films, unittest.TestCase):
    def test_corners(self):
        for lot in LOTS:
            for fence in range(len(lot)):
                for vector in ((0, 0), ((1, 10), (-1, 7)), [(1, 10 ** 30), [1, 3]]):
                    x, y = fractions_of(vector)
                    told = carried(lot, fence, vector)
                    self.check_film(told, lot, fence, changed(lot.fences[fence].corners, lambda p, q: (p + x, q + y)))
                    self.assertEqual(carried(vector=vector, fence=fence, lot=lot), told)

    def test_moments(self):
        film = carried(NEST, 1, (1, (1, 2)))
        self.assertEqual(film.at((1, 2)), lot_of(LARGE, moved(TRI, (1, 2), (1, 4))))
        self.assertEqual(film.backward(), carried(film.at(1), 1, (-1, (-1, 2))))
        self.assertEqual(film.part((1, 4), (3, 4)), carried(film.at((1, 4)), 1, ((1, 2), (1, 4))))
        self.assertEqual(judged_film(film), Safe())

    def test_there_and_back(self):
        for lot in LOTS[:5]:
            self.assertEqual(carried(lot, 0, (0, 0)), Film([fence.corners for fence in lot.fences], [fence.corners for fence in lot.fences]))

    def test_through_another_fence(self):
        lot = lot_of(TRI, moved(TRI, 9, 1))
        film = carried(lot, 1, (-30, 0))
        self.assertIs(type(judged_film(film)), Touch)
        self.assertRaises(NoLot, film.at, (3, 10))
        self.assertEqual(film.at(1), lot_of(TRI, moved(TRI, -21, 1)))
        self.assertEqual(judged_film(carried(lot, 1, (30, 0))), Safe())
        # Out of the large fence: its sides are passed.
        self.assertIs(type(judged_film(carried(NEST, 1, (100, 0)))), Touch)

    def test_errors(self):
        self.check_fences(carried, None, None)
        for bad in NO_POINTS:
            self.check_part(BadPoint, "vector", carried, NEST, 1, bad)
        # Onto a corner, across a side.
        for vector in ((-10, -10), (0, -10)):
            self.check_raises(NoFilm, {"word": "last", "fence": 0, "side": 0}, carried, NEST, 1, vector)
        self.check_raises(NoFilm, {"word": "last", "fence": 0, "side": 0}, carried, NEST, 0, (10, 10))


class BlownTest(Films, unittest.TestCase):
    def test_corners(self):
        for lot in LOTS:
            for fence in range(len(lot)):
                corner = lot.fences[fence].corners[-1]
                for spot in ((1, 1), corner, ((3, 2), 0), [100, (-1, 7)]):
                    for share in SHARES:
                        size, (x, y) = fraction(share), fractions_of(spot)
                        row = changed(lot.fences[fence].corners, lambda p, q: (x + size * (p - x), y + size * (q - y)))
                        if len(lot) > 1 and share not in (1, SHARES[-1]):
                            continue
                        told = blown(lot, fence, spot, share)
                        self.check_film(told, lot, fence, row)
                        self.assertEqual(blown(share=pair(size), spot=spot, fence=fence, lot=lot), told)

    def test_with_other_fences(self):
        lot = lot_of(LARGE, TRI, moved(TRI, 40, 0))
        for share in SHARES[1:]:
            size = fraction(share)
            self.check_film(blown(lot, 1, (0, 0), share), lot, 1, changed(TRI, lambda p, q: (size * p, size * q)))

    def test_share_1(self):
        for lot in LOTS:
            self.assertEqual(blown(lot, 0, (5, (1, 3)), 1), carried(lot, 0, (0, 0)))

    def test_moments(self):
        film = blown(NEST, 1, (1, 1), (1, 3))
        self.assertEqual(film.at((1, 2)), blown(NEST, 1, (1, 1), (2, 3)).at(1))
        self.assertEqual(film.backward(), blown(film.at(1), 1, (1, 1), 3))
        # From 5/6 of its size to 1/2 of it.
        self.assertEqual(film.part((1, 4), (3, 4)), blown(film.at((1, 4)), 1, (1, 1), (3, 5)))

    def test_within_itself(self):
        for share in ((1, 2), (1, 100), (99, 100)):
            for spot in ((1, 1), (2, (1, 2)), ((4, 3), 2)):
                film = blown(NEST, 1, spot, share)
                self.assertEqual(judged_film(film), Safe())
                self.assertEqual(film.at((1, 2)).within(0), (1,))
                self.assertTrue(all(corner in Fence(TRI) for corner in film.last[1]))
        # No side is a point side: no germs.
        for ratio in (1, 2):
            for life in judged_lives(blown(NEST, 1, (1, 1), (1, 10)), ratio).lives:
                self.assertTrue(life[4][0] != life[4][1] and life[5][0] != life[5][1])

    def test_spots_elsewhere(self):
        # At a corner of the fence it stays where it is; outside, the fence comes nearer to the spot.
        film = blown(NEST, 1, (4, 0), (1, 2))
        self.assertEqual((film.last[1][1], judged_film(film)), (film.first[1][1], Safe()))
        self.assertEqual(judged_film(blown(NEST, 1, (50, 50), (9, 10))), Safe())
        self.assertIs(type(judged_film(blown(NEST, 1, (50, 50), (1, 10)))), Touch)
        # The large fence about a point in the small one: it would cross it at last.
        self.check_raises(NoFilm, {"word": "last", "fence": 0, "side": 0}, blown, NEST, 0, (1, 1), (1, 10))
        self.assertIs(type(judged_film(blown(NEST, 0, (1, 1), (1, 100)))), Touch)
        self.assertEqual(judged_film(blown(NEST, 0, (1, 1), 100)), Safe())

    def test_errors(self):
        self.check_fences(blown, None, None, None)
        for bad in NO_POINTS:
            self.check_part(BadPoint, "spot", blown, NEST, 1, bad, None)
        for bad in NO_NUMBERS + (0, -1, (0, 1), (-1, 2)):
            self.check_part(BadNumber, "share", blown, NEST, 1, (1, 1), bad)
        self.check_raises(NoFilm, {"word": "last", "fence": 0, "side": 0}, blown, NEST, 1, (1, 1), 6)


class PushedTest(Films, unittest.TestCase):
    def test_corners(self):
        made = set()
        for lot in LOTS:
            for fence, side in lot.sides:
                corners = lot.fences[fence].corners
                for share in (0, (1, 10), (-1, 10), [1, 2], (-1, 2), 1):
                    if in_line(corners, side):
                        self.check_part(Misfit, "side", pushed, lot, fence, side, share)
                        continue
                    try:
                        told = pushed(lot, fence, side, share)
                    except NoFilm as error:
                        rows = [other.corners for other in lot.fences]
                        rows[fence] = own_pushed(corners, side, share)
                        self.check_raises(NoFilm, vars(error), Film, [other.corners for other in lot.fences], rows)
                        made.add(error.word)
                        continue
                    self.check_film(told, lot, fence, own_pushed(corners, side, share))
                    self.assertEqual(pushed(share=pair(fraction(share)), side=side, fence=fence, lot=lot), told)
                    made.add(type(judged_film(told)))
        self.assertLessEqual({Safe, "turn", "last"}, made)

    def test_share_0(self):
        for lot in LOTS[:3]:
            for fence, side in lot.sides:
                self.assertEqual(pushed(lot, fence, side, 0), carried(lot, fence, (0, 0)))

    def test_until_it_is_a_point(self):
        lot = lot_of(KITE)
        film = pushed(lot, 0, 2, (7, 5))
        self.assertEqual(film.last[0][2:], (((8, 5), (24, 5)),) * 2)
        self.assertEqual((film.placed((0, 2), 1), film.at(1)), (None, lot_of(((0, 0), (4, 0), ((8, 5), (24, 5))))))
        self.assertEqual(judged_film(film), Safe())
        self.check_raises(NoFilm, {"word": "turn", "fence": 0, "side": 2}, pushed, lot, 0, 2, (3, 2))
        # Till the side that comes is a point, and beyond.
        box = lot_of(((0, 0), (4, 0), (5, 3), (0, 4)))
        film = pushed(box, 0, 0, (-3, 4))
        self.assertEqual((film.last[0][:2], film.at((1, 2)).fences[0].corners[0]), ((((0, 1), (3, 1)), ((5, 1), (3, 1))), ((0, 1), (3, 2))))
        self.assertEqual((film.placed((0, 1), 1), len(film.at(1).fences[0])), (None, 3))
        self.check_raises(NoFilm, {"word": "turn", "fence": 0, "side": 1}, pushed, box, 0, 0, (-4, 5))
        # A fence of three corners becomes a point.
        self.check_raises(NoFilm, {"word": "row", "fence": 0, "side": 0}, pushed, lot_of(TRI), 0, 0, -1)

    def test_the_last_side_and_side_0(self):
        lot = lot_of(KITE)
        film = pushed(lot, 0, 3, (1, 2))
        self.assertEqual((film.last[0][3], film.last[0][1:3]), (((0, 1), (7, 2)), film.first[0][1:3]))
        self.assertEqual(film.last[0][0], own_pushed(lot.fences[0].corners, 3, (1, 2))[0])

    def test_onto_and_across_another_fence(self):
        small = ((1, -2), (2, -2), (1, -1))
        lot = lot_of(TRI, small)
        self.check_raises(NoFilm, {"word": "last", "fence": 0, "side": 0}, pushed, lot, 0, 0, (2, 3))
        self.assertIs(type(judged_film(pushed(lot, 0, 0, 1))), Touch)
        self.assertEqual(judged_film(pushed(lot, 0, 0, (1, 4))), Safe())
        self.assertEqual(pushed(lot, 0, 0, 1).at(1).within(0), (1,))
        self.check_raises(NoFilm, {"word": "last", "fence": 0, "side": 0}, pushed, NEST, 1, 0, 30)

    def test_backward(self):
        film = pushed(lot_of(KITE), 0, 0, (1, 2))
        self.assertEqual(film.backward(), pushed(film.at(1), 0, 0, (-1, 3)))
        self.assertEqual(film.part(0, (1, 2)), pushed(lot_of(KITE), 0, 0, (1, 4)))

    def test_in_one_line(self):
        lot = lot_of(STRAIGHT, moved(KITE, 9, 9))
        # At the corner 1 the sides 0 and 1 are in one line; 3 and 2 are not.
        for side in (0, 1):
            for share in (0, 1, -1, (1, 2)):
                self.check_part(Misfit, "side", pushed, lot, 0, side, share)
        for side in (2, 3):
            self.assertIs(type(pushed(lot, 0, side, (1, 2))), Film)

    def test_errors(self):
        self.check_fences(pushed, None, None, None)
        lot = lot_of(LARGE, STRAIGHT)
        for fence, many in ((0, 3), (1, 4)):
            for bad in NO_INTEGERS + (-1, many):
                self.check_part(BadNumber, "side", pushed, lot, fence, bad, None)
        for side in (0, 2):
            for bad in NO_NUMBERS:
                self.check_part(BadNumber, "share", pushed, lot, 1, side, bad)
        # A straight corner, and a film that is none: the first one is told.
        self.check_part(Misfit, "side", pushed, lot, 1, 0, -5)


class BoundsTest(Films, unittest.TestCase):
    def test_six_fences_and_60_sides(self):
        lot = lot_of(*[star(10, 9, (30 * k, 7 * k), k) for k in range(6)])
        far = (10 ** 30 - 1, 10 ** 30)
        for fence in (0, 5):
            self.assertEqual(len(carried(lot, fence, (far, (1, 10 ** 30))).sides), 60)
            self.assertEqual(len(blown(lot, fence, (30 * fence, 7 * fence), far).sides), 60)
            self.assertEqual(len(pushed(lot, fence, 9, (1, 10 ** 30)).sides), 60)
        lot = lot_of(star(40, 9), cell(30, 30), cell(40, 40), cell(50, 50), cell(60, 60), cell(70, 70))
        self.assertEqual(len(carried(lot, 5, (1, 1)).sides), 60)


if __name__ == "__main__":
    unittest.main()

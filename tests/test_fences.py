import random
import unittest
from fractions import Fraction

from oddsquares.errors import BadFence, BadPoint, NoFence
from oddsquares.fences import Back, Closed, Fence, Meets, Short, judged_corners
from tests.shapes import DENT, KITE, STRAIGHT, TRI, comb, first_denial, is_inside, on_side, sides_of, star
from tests.values import NO_POINTS, Raises, fractions_of, in_lists, pair

NO_CORNERS = (None, True, 5, "", "abc", {}, object(), [], [(0, 0)], [(0, 0), (4, 0)], [0, 1, 2], {0: 1, 1: 2, 2: 3},
              {(0, 0), (4, 0), (1, 3)}, [(0, 0), (4, 0), (1, 3.0)], [(0, 0), (4, 0), (True, 3)], [(0, 0), (4, 0), ((2, 4), 3)])


def ring(many):
    """As many corners on a bow that bends left everywhere."""
    return [(k, k * k) for k in range(many)]


class JudgedTest(Raises, unittest.TestCase):
    def test_short_is_the_first(self):
        self.assertEqual(judged_corners([(0, 0), (0, 0), (0, 0)]), Short(0))
        self.assertEqual(judged_corners([(0, 0), (4, 0), (2, 0), (2, 0), (2, 0)]), Short(2))
        self.assertEqual(judged_corners([(0, 0), (4, 0), (2, 0), ((0, 1), 0)]), Short(3))
        self.assertEqual(judged_corners([((1, 2), 0), (4, 0), (4, 4), [(1, 2), (0, 1)]]), Short(3))

    def test_back_is_the_second(self):
        self.assertEqual(judged_corners([(0, 0), (1, 0), (4, 0), (2, 0), (2, 5)]), Back(2))
        self.assertEqual(judged_corners([(0, 0), (1, 1), (2, 2)]), Back(0))
        self.assertEqual(judged_corners([(0, 0), (2, 0), (1, 0), (1, 1), (1, -1), (0, -1)]), Back(1))
        self.assertEqual(judged_corners([(0, 0), (4, 0), (4, 4), (4, (1, 3))]), Back(2))

    def test_meets_the_least_pair(self):
        told = judged_corners([(0, 0), (4, 0), (4, 2), (0, 2), (0, 1), (5, 1)])
        self.assertEqual(told, Meets(1, 4, ((4, 1), (1, 1))))
        self.assertEqual(judged_corners([(0, 0), (4, 0), (4, 4), (2, 0), (0, 4)]), Meets(0, 2, ((2, 1), (0, 1))))
        self.assertEqual(judged_corners([(0, 0), (2, 2), (2, 0), (0, 2)]), Meets(0, 2, ((1, 1), (1, 1))))

    def test_sides_on_one_line(self):
        corners = [(0, 0), (4, 0), (4, 1), (6, 1), (6, 0), (2, 0), (2, -1), (0, -1)]
        told = judged_corners(corners)
        self.assertEqual((told.word, told.one, told.other, told.point[1]), ("meets", 0, 4, (0, 1)))
        self.assertTrue(2 <= Fraction(*told.point[0]) <= 4)

    def test_closed(self):
        for corners in (TRI, KITE, DENT, STRAIGHT, comb(5), ring(40)):
            self.assertEqual(judged_corners(corners), Closed(True))
            self.assertEqual(judged_corners(corners[::-1]), Closed(False))
            self.assertEqual(judged_corners(in_lists(tuple(corners))), Closed(True))
            self.assertIs(judged_corners(corners=corners).is_left, True)

    def test_by_chance(self):
        chance = random.Random(4)
        seen = set()
        for run in range(3000):
            size, under = chance.choice(((3, 1), (5, 1), (4, 2), (6, 3)))
            corners = [tuple(pair(Fraction(chance.randrange(size + 1), under)) for _ in range(2))
                       for _ in range(chance.randrange(3, 8))]
            told, right = judged_corners(corners), first_denial(corners)
            seen.add(told.word)
            if right is None:
                self.assertEqual(told.word, "closed")
            else:
                self.assertEqual((told.word,) + told.parts[:len(right) - 1], right)
            if told.word == "meets":
                for side in (told.one, told.other):
                    self.assertTrue(on_side(fractions_of(told.point), sides_of(corners)[side]))
                self.assertEqual(told, judged_corners(in_lists(tuple(corners))))
        self.assertEqual(seen, {"short", "back", "meets", "closed"})

    def test_errors(self):
        for bad in NO_CORNERS + (ring(41), tuple(ring(41))):
            self.check_part(BadFence, "corners", judged_corners, bad)
            self.check_part(BadFence, "corners", Fence, bad)
        for bad in NO_POINTS:
            self.check_part(BadFence, "corners", judged_corners, [(0, 0), (4, 0), (1, 3), bad])
            self.check_part(BadFence, "corners", Fence, corners=[bad, (0, 0), (4, 0), (1, 3)])


class FenceTest(Raises, unittest.TestCase):
    def test_corners_and_sides(self):
        for corners in (TRI, KITE, DENT, STRAIGHT, comb(6), star(40, 10)):
            fence = Fence(corners)
            points = tuple(tuple(pair(part) for part in fractions_of(corner)) for corner in corners)
            self.assertEqual(fence.corners, points)
            self.assertEqual(fence.sides, tuple(zip(points, points[1:] + points[:1])))
            self.assertEqual(len(fence), len(corners))
            other = Fence([corners[0]] + list(corners[:0:-1]))
            self.assertEqual(other.corners, fence.corners)
            self.assertEqual((other.sides, other.area, other.bends), (fence.sides, fence.area, fence.bends))

    def test_tuples_all_the_way_in(self):
        corners = [[0, 0], [4, 0], [[1, 2], [7, 2]]]
        fence = Fence(corners)
        corners[2][0][0] = 99
        corners.append([0, 1])
        self.assertEqual(fence.corners, (((0, 1), (0, 1)), ((4, 1), (0, 1)), ((1, 2), (7, 2))))
        for value in (fence.corners, fence.corners[2], fence.corners[2][1], fence.sides, fence.sides[0], fence.area, fence.bends):
            self.assertIs(type(value), tuple)

    def test_area(self):
        self.assertEqual([Fence(corners).area for corners in (TRI, KITE, DENT, KITE[::-1])], [(6, 1), (15, 2), (10, 1), (15, 2)])
        self.assertEqual(Fence([(0, 0), ((1, 2), 0), (0, (1, 3))]).area, (1, 12))
        far = 10 ** 40
        self.assertEqual(Fence([(x + far, y - far) for x, y in KITE]).area, (15, 2))

    def test_bends(self):
        self.assertEqual(Fence(TRI).bends, ("left",) * 3)
        self.assertEqual(Fence(STRAIGHT[::-1]).bends, ("left", "left", "straight", "left"))
        self.assertEqual(Fence(DENT[2:] + DENT[:2]).bends, ("right", "left", "left", "left"))
        self.assertEqual(Fence([(2, 0), (4, 0), (1, 3), (0, 0)]).bends, ("straight", "left", "left", "left"))
        self.assertEqual(Fence(comb(3)).bends, ("left",) * 3 + ("right", "left", "right", "left", "right"))

    def test_equality(self):
        self.assertIs(Fence(KITE) == Fence(in_lists(KITE)), True)
        self.assertIs(Fence(KITE) != Fence(KITE), False)
        for other in (Fence(TRI), Fence(KITE[1:] + KITE[:1]), Fence(KITE).corners, None, KITE, Closed(True)):
            self.assertIs(Fence(KITE) == other, False)

    def test_no_fence_tells_why(self):
        for corners in ([(0, 0), (4, 0), (2, 0)], [(0, 0), (0, 0), (1, 1)], [(0, 0), (4, 0), (0, 3), (4, 3)]):
            with self.assertRaises(NoFence) as caught:
                Fence(corners)
            self.assertEqual(caught.exception.why, judged_corners(corners))
            self.assertIs(bool(caught.exception.why), False)
        self.check_raises(NoFence, {"why": Back(0)}, Fence, [(0, 0), (4, 0), (2, 0)])

    def test_most_corners(self):
        self.assertEqual(len(Fence(ring(40))), 40)
        self.assertEqual(len(Fence(star(40, 10 ** 5))), 40)


class WhereTest(Raises, unittest.TestCase):
    def check_where(self, corners, point, told):
        fence = Fence(corners)
        self.assertEqual(fence.where(point), told)
        self.assertEqual(fence.where(point=in_lists(tuple(point))), told)
        self.assertIs(point in fence, told != ("outside",))

    def test_kite(self):
        for k, corner in enumerate(KITE):
            self.check_where(KITE, corner, ("corner", k))
        for point, told in (((1, 0), ("side", 0)), ((5, 0), ("outside",)), ((-1, 0), ("outside",)), (((7, 2), 1), ("side", 1)),
                            ((2, (5, 2)), ("side", 2)), ((5, 1), ("outside",)), (((1, 3), 1), ("side", 3)), ((2, 6), ("outside",)),
                            ((2, 1), ("inside",)), ((0, 3), ("outside",)), ((0, 2), ("outside",)), ((5, 2), ("outside",)),
                            ((2, 2), ("inside",)), ((-3, 2), ("outside",))):
            self.check_where(KITE, point, told)

    def test_straight_corner_is_a_corner(self):
        self.check_where(STRAIGHT, (2, 0), ("corner", 1))
        self.check_where(STRAIGHT, (1, 0), ("side", 0))
        self.check_where(STRAIGHT, (3, 0), ("side", 1))

    def test_by_chance(self):
        chance = random.Random(8)
        seen = set()
        for corners in (TRI, KITE, DENT, STRAIGHT, comb(3), [(0, 0), (6, 0), (6, 6), (3, 3), (0, 6)], [(1, 0), (4, 1), (3, 5), (2, 1)]):
            fence = Fence(corners)
            sides = sides_of(corners)
            for run in range(300):
                point = tuple(Fraction(chance.randrange(-4, 40), 4) for _ in range(2))
                told = fence.where(tuple(pair(part) for part in point))
                seen.add(told[0])
                on = [k for k, side in enumerate(sides) if on_side(point, side)]
                if len(on) == 2:
                    self.assertEqual(told, ("corner", [k for k in on if sides[k][0] == point][0]))
                elif on:
                    self.assertEqual(told, ("side", on[0]))
                else:
                    self.assertEqual(told, ("inside",) if is_inside(corners, point) else ("outside",))
        self.assertEqual(seen, {"corner", "side", "inside", "outside"})

    def test_great_numbers(self):
        far = 10 ** 30
        corners = [(0, 0), (far, 0), (far, far), (0, far)]
        self.check_where(corners, (far - 1, (10 ** 30 - 1, 10 ** 30)), ("inside",))
        self.check_where(corners, (far, (1, far)), ("side", 1))
        self.check_where(corners, ((far * far + 1, far), 1), ("outside",))

    def test_errors(self):
        for bad in NO_POINTS:
            self.check_part(BadPoint, "point", Fence(KITE).where, bad)
            with self.assertRaises(BadPoint) as caught:
                bad in Fence(KITE)
            self.assertEqual(caught.exception.part, "point")


if __name__ == "__main__":
    unittest.main()

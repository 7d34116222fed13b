import itertools
import unittest

from oddsquares.errors import BadNumber, BadPoint, BadText
from oddsquares.points import (added, between, cross, dot, point, point_text, quarter, read_point, scaled, squared, taken)
from tests.values import NO_NUMBERS, NO_POINTS, Raises, fraction, fractions_of, in_lists, pair

GREAT = 10 ** 30 + 57
POINTS = ((0, 0), (1, 2), ((1, 2), (-3, 4)), (-7, (5, 3)), ((0, 1), (4, 1)), (GREAT, (1, GREAT)), ((-2, 3), 0))
SHARES = (0, 1, (1, 2), -1, (-1, 3), 2, (7, 5), [1, 4], GREAT)


def told(x, y):
    return (pair(x), pair(y))


class PointsTest(Raises, unittest.TestCase):
    def test_point(self):
        for x, y in POINTS:
            self.assertEqual(point(x, y), told(fraction(x), fraction(y)))
        self.assertEqual(point(y=[1, 2], x=3), ((3, 1), (1, 2)))

    def test_one_vector(self):
        for value in POINTS:
            x, y = fractions_of(value)
            self.assertEqual(quarter(value), told(-y, x))
            self.assertEqual(quarter(in_lists(value)), quarter(value))
            for factor in SHARES:
                size = fraction(factor)
                self.assertEqual(scaled(value, factor), told(x * size, y * size))

    def test_two_points(self):
        for one, other in itertools.product(POINTS, POINTS):
            (x, y), (z, w) = fractions_of(one), fractions_of(other)
            self.assertEqual(added(one, other), told(x + z, y + w))
            self.assertEqual(taken(one, other), told(x - z, y - w))
            self.assertEqual(cross(one, other), pair(x * w - y * z))
            self.assertEqual(dot(one, other), pair(x * z + y * w))
            self.assertEqual(squared(one, other), pair((x - z) ** 2 + (y - w) ** 2))
            self.assertEqual(cross(quarter(one), other), pair(-(x * z + y * w)))
            for share in SHARES:
                part = fraction(share)
                self.assertEqual(between(one, other, share), told(x + part * (z - x), y + part * (w - y)))

    def test_lists_and_names(self):
        one, other = ((1, 2), 3), (4, (5, 6))
        for call in (added, taken, cross, dot, squared):
            self.assertEqual(call(in_lists(one), in_lists(other)), call(one, other))
            self.assertEqual(call(other=other, one=one), call(one, other))
        self.assertEqual(between(in_lists(one), in_lists(other), [1, 3]), between(one=one, other=other, share=(1, 3)))
        self.assertEqual(scaled(factor=2, vector=one), ((1, 1), (6, 1)))
        self.assertEqual(quarter(vector=one), ((-3, 1), (1, 2)))

    def test_errors(self):
        for bad in NO_NUMBERS:
            self.check_part(BadNumber, "x", point, bad, bad)
            self.check_part(BadNumber, "y", point, 0, bad)
            self.check_part(BadNumber, "factor", scaled, (0, 0), bad)
            self.check_part(BadNumber, "share", between, (0, 0), (1, 1), bad)
        for bad in NO_POINTS:
            for call in (added, taken, cross, dot, squared):
                self.check_part(BadPoint, "one", call, bad, bad)
                self.check_part(BadPoint, "other", call, (0, 0), bad)
            self.check_part(BadPoint, "vector", scaled, bad, None)
            self.check_part(BadPoint, "vector", quarter, bad)
            self.check_part(BadPoint, "one", between, bad, bad, bad)
            self.check_part(BadPoint, "other", between, (0, 0), bad, None)


class TextsTest(Raises, unittest.TestCase):
    def test_back_and_forth(self):
        for value in POINTS:
            x, y = fractions_of(value)
            text = point_text(value)
            self.assertEqual(text, str(x) + "," + str(y))
            self.assertEqual(read_point(text), told(x, y))
            self.assertEqual(point_text(in_lists(value)), text)

    def test_errors(self):
        for bad in NO_POINTS:
            self.check_part(BadPoint, "value", point_text, bad)

    def test_no_texts(self):
        for text in ("", ",", "1", "1,", ",1", "1,2,3", "1,2,", "1, 2", " 1,2", "1,2 ", "1;2", "1 2", "(1,2)", "2/4,0", "0,01", "+1,2",
                     "1,-0", "1,2\n", "1,,2", "a,b", "1/2", "1" + "0" * 60 + ",0", "0,1/1" + "0" * 60):
            self.check_part(BadText, "text", read_point, text)
        for bad in (None, True, 7, (1, 2), ["1,2"], b"1,2", object()):
            self.check_part(BadText, "text", read_point, bad)


if __name__ == "__main__":
    unittest.main()

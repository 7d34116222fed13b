import unittest

from oddsquares.checks import are_points, is_integer, is_number, is_point, is_within
from tests.values import NO_INTEGERS, NO_NUMBERS, NO_POINTS


class ChecksTest(unittest.TestCase):
    def test_is_integer(self):
        for value in (0, 1, -1, 10 ** 40, -10 ** 40):
            self.assertIs(is_integer(value), True)
        for value in NO_INTEGERS:
            self.assertIs(is_integer(value), False, value)

    def test_is_within(self):
        for least, most, right in ((0, 3, (0, 1, 3)), (None, 3, (-10 ** 30, 3)), (0, None, (0, 10 ** 30)),
                                   (None, None, (-10 ** 30, 0, 10 ** 30)), (2, 2, (2,))):
            for value in right:
                self.assertIs(is_within(value, least, most), True)
        for value, least, most in ((-1, 0, 3), (4, 0, 3), (4, None, 3), (-1, 0, None), (1, 2, 0)):
            self.assertIs(is_within(value, least, most), False)
        for value in NO_INTEGERS:
            for least, most in ((None, None), (0, 3), (None, 3), (0, None)):
                self.assertIs(is_within(value, least, most), False, value)

    def test_is_within_by_name(self):
        self.assertIs(is_within(value=3, least=3, most=None), True)

    def test_is_number(self):
        for value in (0, 5, -5, (0, 1), (1, 1), [1, 2], (-2, 7), (10 ** 30, 10 ** 30 + 1), [3, 1]):
            self.assertIs(is_number(value), True, value)
        for value in NO_NUMBERS:
            self.assertIs(is_number(value), False, value)

    def test_is_point(self):
        for value in ((0, 0), [1, 2], (1, 2), ((1, 2), 3), [[1, 2], [-3, 4]], (10 ** 30, (0, 1))):
            self.assertIs(is_point(value), True, value)
        for value in NO_POINTS:
            self.assertIs(is_point(value), False, value)

    def test_are_points(self):
        good = [(0, 0), [1, (1, 2)], (3, 4)]
        for value in (good, tuple(good)):
            for least, most, right in ((0, 3, True), (3, 3, True), (1, 2, False), (4, 5, False)):
                self.assertIs(are_points(value, least, most), right)
        self.assertIs(are_points([], 0, 0), True)
        self.assertIs(are_points((), 0, 3), True)
        for value in (None, 3, "", "abc", {}, {(0, 0): 1}, {(0, 0)}, iter(good), True):
            self.assertIs(are_points(value, 0, 3), False, value)
        for bad in NO_POINTS:
            self.assertIs(are_points(good + [bad], 0, 9), False, bad)
        self.assertIs(are_points(value=good, least=1, most=9), True)


if __name__ == "__main__":
    unittest.main()

"""Values for the tests: of no kind that is asked for, and numbers beside Python's own fractions."""

from fractions import Fraction

NO_INTEGERS = (True, False, None, "", "1", "abcd", 1.0, 0.5, (), [], (1,), (1, 1), [2, 3], {}, {1: 2}, {1}, object(), b"1",
               Fraction(1, 2))
NO_NUMBERS = (True, False, None, "", "1", "12", 1.0, 0.5, (), [], (1,), (1, 2, 3), (2, 4), (0, 2), (1, 0), (0, 0), (1, -2),
              (-1, -1), (True, 1), (1, True), (1.0, 2), (1, None), ((1, 1), 2), {}, {1: 2, 3: 4}, {1, 2}, object(), b"12",
              range(2), Fraction(1, 2))
NO_POINTS = (True, None, "", "12", 0, 7, (), (1,), (1, 2, 3), (True, 0), (0, False), (0, (2, 4)), ((1, 0), 0), [1, "2"],
             (None, None), {0: 1, 1: 2}, {1, 2}, object(), (1, 2.0), ((1, 2), (3, 4, 5)), b"12", range(2))


def fraction(value):
    """Python's fraction of a number."""
    if isinstance(value, int):
        return Fraction(value)
    return Fraction(value[0], value[1])


def pair(value):
    """The number of one of Python's fractions."""
    return (Fraction(value).numerator, Fraction(value).denominator)


def fractions_of(point):
    return (fraction(point[0]), fraction(point[1]))


def in_lists(value):
    """The value with lists in the place of tuples, all the way in."""
    if isinstance(value, tuple):
        return [in_lists(item) for item in value]
    return value


class Raises:
    """A mixin: checks an error and its fields."""

    def check_raises(self, kind, fields, call, *parts, **named):
        with self.assertRaises(kind) as caught:
            call(*parts, **named)
        self.assertIs(type(caught.exception), kind)
        self.assertEqual(vars(caught.exception), fields)

    def check_part(self, kind, part, call, *parts, **named):
        self.check_raises(kind, {"part": part}, call, *parts, **named)


NO_RATIOS = NO_NUMBERS + (0, -1, (0, 1), (-1, 2), -10 ** 30)

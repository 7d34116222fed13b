import itertools
import unittest

from oddsquares.errors import BadNumber, BadText
from oddsquares.exact import is_less, minus, number, number_text, over, plus, read_number, sign_of, times
from tests.values import NO_INTEGERS, NO_NUMBERS, Raises, fraction, pair

GREAT = 10 ** 30 + 57
NUMBERS = (0, 1, -1, 7, (0, 1), (1, 2), [-1, 2], (2, 3), (-3, 2), [5, 1], (GREAT, 3 ** 50), -GREAT, (-3, GREAT), (1, 6), (5, 6))
TWO = (plus, minus, times, over, is_less)


class NumbersTest(Raises, unittest.TestCase):
    def test_number(self):
        for top, under in itertools.product((0, 1, -1, 6, -9, GREAT, -GREAT * 12), (1, -1, 4, -6, GREAT)):
            self.assertEqual(number(top, under), pair(fraction(top) / under))
        self.assertEqual([number(6), number(top=0), number(4, under=-6)], [(6, 1), (0, 1), (-2, 3)])
        self.assertEqual(number(0, -3), (0, 1))

    def test_number_errors(self):
        for bad in NO_INTEGERS:
            self.check_part(BadNumber, "top", number, bad)
            self.check_part(BadNumber, "top", number, bad, 0)
            self.check_part(BadNumber, "under", number, 1, bad)
        self.check_part(BadNumber, "under", number, 0, 0)

    def test_four_rules_and_order(self):
        for one, other in itertools.product(NUMBERS, NUMBERS):
            first, second = fraction(one), fraction(other)
            self.assertEqual(plus(one, other), pair(first + second))
            self.assertEqual(minus(one, other), pair(first - second))
            self.assertEqual(times(one, other), pair(first * second))
            self.assertIs(is_less(one, other), first < second)
            if second:
                self.assertEqual(over(one, other), pair(first / second))
            else:
                self.check_part(BadNumber, "other", over, one, other)

    def test_pairs_are_returned(self):
        for call in (plus, minus, times, over):
            told = call([4, 1], 2)
            self.assertIs(type(told), tuple)
            self.assertEqual(told, call(one=4, other=[2, 1]))

    def test_errors_of_two(self):
        for call in TWO:
            for bad in NO_NUMBERS:
                self.check_part(BadNumber, "one", call, bad, 1)
                self.check_part(BadNumber, "one", call, bad, bad)
                self.check_part(BadNumber, "other", call, 1, bad)
        self.check_part(BadNumber, "one", over, None, 0)

    def test_sign_of(self):
        for value in NUMBERS:
            size = fraction(value)
            self.assertEqual(sign_of(value), (size > 0) - (size < 0))
            self.assertIs(type(sign_of(value)), int)
        for bad in NO_NUMBERS:
            self.check_part(BadNumber, "value", sign_of, bad)


class TextsTest(Raises, unittest.TestCase):
    def test_back_and_forth(self):
        for value in NUMBERS + ((1, GREAT * 3), (-1, 10 ** 59), (10 ** 60 - 1, 10 ** 60 - 2), 1 - 10 ** 60):
            text = number_text(value)
            self.assertEqual(text, str(fraction(value)))
            self.assertEqual(read_number(text), pair(fraction(value)))
            self.assertIs(type(read_number(text)), tuple)

    def test_long_texts(self):
        self.assertEqual(number_text(10 ** 3999), "1" + "0" * 3999)
        self.assertEqual(number_text((-1, 10 ** 3999)), "-1/1" + "0" * 3999)

    def test_number_text_errors(self):
        for bad in NO_NUMBERS:
            self.check_part(BadNumber, "value", number_text, bad)

    def test_no_texts(self):
        for text in ("", " ", "-", "+1", "01", "00", "-0", "-01", "1 ", " 1", "1\n", "1/", "/2", "/", "1/1", "2/4", "0/1", "0/5",
                     "1/0", "1/-2", "1/+2", "-1/-2", "1/02", "01/2", "1//2", "1/2/3", "1 /2", "1/ 2", "1.5", "1e3", "1_000", "--1",
                     "a", "1a", "\u0661", "\u00b2", "1/\u0662", "0x1", "1,2", "-/2", "4/2", "-0/1", "1/2 "):
            self.check_part(BadText, "text", read_number, text)

    def test_digits(self):
        nines, tens = "9" * 60, "1" + "0" * 59
        self.assertEqual(read_number("-" + nines + "/" + tens), (1 - 10 ** 60, 10 ** 59))
        for text in ("1" + "0" * 60, "-1" + "0" * 60, "1/1" + "0" * 60, "1" + "0" * 60 + "/3", "9" * 19999, "1/" + "9" * 19998):
            self.check_part(BadText, "text", read_number, text)

    def test_no_strings(self):
        for bad in (None, True, 0, 3, (1, 2), ["1"], b"1", {}, object()):
            self.check_part(BadText, "text", read_number, bad)


if __name__ == "__main__":
    unittest.main()

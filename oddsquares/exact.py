"""Exact numbers: sums, order, texts."""

from math import gcd

from oddsquares.arguments import number_in
from oddsquares.arithmetic import difference, is_below, lowest, product_of, quotient, sign, sum_of
from oddsquares.checks import is_integer
from oddsquares.errors import BadNumber, BadText

MOST_DIGITS = 60


def number(top, under=1):
    """top divided by under, two integers."""
    if not is_integer(top):
        raise BadNumber("top")
    if not is_integer(under) or under == 0:
        raise BadNumber("under")
    return lowest(top, under)


def plus(one, other):
    """one plus other."""
    return sum_of(number_in(one, "one"), number_in(other, "other"))


def minus(one, other):
    """one less other."""
    return difference(number_in(one, "one"), number_in(other, "other"))


def times(one, other):
    """one times other."""
    return product_of(number_in(one, "one"), number_in(other, "other"))


def over(one, other):
    """one divided by other."""
    part = number_in(one, "one")
    by = number_in(other, "other")
    if by[0] == 0:
        raise BadNumber("other")
    return quotient(part, by)


def is_less(one, other):
    """Whether one is less than other."""
    return is_below(number_in(one, "one"), number_in(other, "other"))


def sign_of(value):
    """1, 0 or -1, as the number is above 0, 0 or below 0."""
    return sign(number_in(value, "value")[0])


def number_text(value):
    """The top, and, if the under is not 1, a stroke and the under."""
    top, under = number_in(value, "value")
    if under == 1:
        return str(top)
    return f"{top}/{under}"


def is_count(text):
    """Whether it is 1 to 60 digits without a needless zero ahead."""
    if not text.isascii() or not text.isdigit() or len(text) > MOST_DIGITS:
        return False
    return text == "0" or not text.startswith("0")


def parsed_number(text):
    """The number of which any value is the text, or None."""
    if not isinstance(text, str):
        return None
    is_negative = text.startswith("-")
    top_text, stroke, under_text = text.removeprefix("-").partition("/")
    if not is_count(top_text) or (is_negative and top_text == "0"):
        return None
    top = -int(top_text) if is_negative else int(top_text)
    if stroke == "":
        return (top, 1)
    if not is_count(under_text) or int(under_text) < 2 or gcd(top, int(under_text)) != 1:
        return None
    return (top, int(under_text))


def read_number(text):
    """The number of which this is the text."""
    value = parsed_number(text)
    if value is None:
        raise BadText("text")
    return value

"""Points and vectors: sums, products, texts."""

from oddsquares.arguments import number_in, point_in
from oddsquares.errors import BadText
from oddsquares.exact import number_text, parsed_number
from oddsquares.vectors import cross_of, dot_of, joined, moved, stretched, turned, way_between


def point(x, y):
    """The point of two numbers."""
    return (number_in(x, "x"), number_in(y, "y"))


def added(one, other):
    """one plus other."""
    return joined(point_in(one, "one"), point_in(other, "other"))


def taken(one, other):
    """one less other."""
    start = point_in(one, "one")
    return way_between(point_in(other, "other"), start)


def scaled(vector, factor):
    """The vector times the factor."""
    told = point_in(vector, "vector")
    return stretched(told, number_in(factor, "factor"))


def quarter(vector):
    """The vector turned: a quarter to the left."""
    return turned(point_in(vector, "vector"))


def cross(one, other):
    """The cross of two vectors, a number."""
    return cross_of(point_in(one, "one"), point_in(other, "other"))


def dot(one, other):
    """The dot of two vectors, a number."""
    return dot_of(point_in(one, "one"), point_in(other, "other"))


def squared(one, other):
    """The square of the distance of two points."""
    way = taken(one, other)
    return dot_of(way, way)


def between(one, other, share):
    """one, moved by share times the vector from one to other."""
    start = point_in(one, "one")
    way = way_between(start, point_in(other, "other"))
    return moved(start, way, number_in(share, "share"))


def point_text(value):
    """The texts of both numbers with a comma between."""
    x, y = point_in(value, "value")
    return f"{number_text(x)},{number_text(y)}"


def parsed_point(text):
    """The point of which any value is the text, or None."""
    if not isinstance(text, str):
        return None
    words = text.split(",")
    if len(words) != 2:
        return None
    x = parsed_number(words[0])
    y = parsed_number(words[1])
    if x is None or y is None:
        return None
    return (x, y)


def read_point(text):
    """The point of which this is the text."""
    value = parsed_point(text)
    if value is None:
        raise BadText("text")
    return value

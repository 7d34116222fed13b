"""Whether values of any kind are the same as told ones, True and False being the same as no integers."""

from oddsquares.arithmetic import is_share
from oddsquares.checks import are_points, is_integer, is_number, is_point


def is_same(value, told):
    """Whether any value is the same as an integer, True, False or a string, or as a tuple of such and of tuples."""
    if isinstance(told, bool):
        return isinstance(value, bool) and value == told
    if isinstance(told, str):
        return isinstance(value, str) and value == told
    if not isinstance(told, tuple):
        return is_integer(value) and value == told
    if not isinstance(value, tuple) or len(value) != len(told):
        return False
    return all([is_same(item, part) for item, part in zip(value, told)])


def is_same_paper(value, told):
    """Whether any value is a paper of the same class, with the same parts."""
    return type(value) is type(told) and is_same(value.parts, told.parts)


def is_told_moment(value):
    """Whether any value is a number from 0 to 1 as papers have it: a pair."""
    return is_number(value) and not is_integer(value) and is_share(value)


def is_told_point(value):
    """Whether any value is a point as papers have it: with pairs as its numbers."""
    return is_point(value) and not any([is_integer(number) for number in value])


def are_told_posts(value):
    """Whether any value is four points as papers have them."""
    return are_points(value, 4, 4) and all([is_told_point(post) for post in value])

"""Stretches of moments: pairs (start, stop) of numbers from 0 to 1, the start not above the stop.

What is passed is not looked at: the callers know it.
"""

from oddsquares.arithmetic import is_below, lowest, product_of, sum_of

ALL = ((0, 1), (1, 1))


def crossing(first, last):
    """The moment at which what is first at 0 and last at 1, two unlike integers, and changes at one pace, is 0."""
    return lowest(first, first - last)


def clipped(span, first, last):
    """The part of a span in which what is first at 0 and last at 1, two integers, is not below 0; None if none is."""
    if first >= 0 and last >= 0:
        return span
    if first < 0 and last < 0:
        return None
    start, stop = span
    moment = crossing(first, last)
    if first < 0 and is_below(start, moment):
        start = moment
    if last < 0 and is_below(moment, stop):
        stop = moment
    if is_below(stop, start):
        return None
    return (start, stop)


def is_inner(moment):
    """Whether a moment is neither 0 nor 1."""
    return moment not in ALL


def inner_moment(span):
    """An inner moment of a span, or None."""
    start, stop = span
    if start != stop:
        return product_of(sum_of(start, stop), (1, 2))
    if is_inner(start):
        return start
    return None


def clipped_by(span, first, last):
    """As clipped, for numbers."""
    return clipped(span, first[0] * last[1], last[0] * first[1])

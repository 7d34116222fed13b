"""Frames on four moving sides whose sign is 0. What is passed is not looked at: the callers know it.

A row of posts on the lines of the sides is told by five unknowns: for each post how far along the direction of its
side it is from where that begins, and the moment.
"""

from oddsquares.arithmetic import ZERO, difference, is_share, negative, product_of, quotient, sum_of, whole
from oddsquares.linear import solutions
from oddsquares.moving import at_moment, direction_of
from oddsquares.rectangles import faults
from oddsquares.spans import ALL, clipped, inner_moment
from oddsquares.standing import ends_on
from oddsquares.vectors import NOWHERE, dot_of, way_between

MOMENT = 4


def _rows_on(sides, ratio):
    """All rows of posts on the lines that have no faults: base and ways, or None, as solutions tells."""
    columns = []
    for number, side in enumerate(sides):
        alone = [NOWHERE] * 4
        alone[number] = direction_of(side)
        columns.append(faults(alone, ratio))
    starts = [(first[0], last[0]) for first, last in sides]
    columns.append(faults([way_between(first, last) for first, last in starts], ratio))
    columns.append([negative(fault) for fault in faults([first for first, last in starts], ratio)])
    return solutions([list(row) for row in zip(*columns)], 5)


def _length(side, direction):
    """How long a side is at a moment, beside its direction."""
    return quotient(dot_of(direction, way_between(side[0], side[1])), dot_of(direction, direction))


def _rules(sides, base, ways):
    """What is not below 0 where the posts are on the sides: rows of integers, a constant and a factor for each way."""
    rules = []
    for number, side in enumerate(sides):
        first, last = [_length(told, direction_of(side)) for told in side]
        growth = difference(last, first)
        rule = [row[number] for row in [base] + ways]
        rest = [difference(product_of(growth, row[MOMENT]), row[number]) for row in [base] + ways]
        rest[0] = sum_of(rest[0], first)
        rules.extend([whole(rule)[0], whole(rest)[0]])
    return rules


def _without_first(rules):
    """What the rules leave for the other ways than the first one: each rule for more of it with each one for less."""
    more = [rule for rule in rules if rule[1] > 0]
    less = [rule for rule in rules if rule[1] < 0]
    left = [rule for rule in rules if rule[1] == 0]
    for one in more:
        left.extend([[one[1] * second - other[1] * first for first, second in zip(one, other)] for other in less])
    return [rule[:1] + rule[2:] for rule in left]


def _span(rules):
    """The span of moments that the rules leave, the last way being that of the moment; or None."""
    while len(rules[0]) > 2:
        rules = _without_first(rules)
        if not rules:
            return ALL
    span = ALL
    for first, growth in rules:
        span = clipped(span, first, first + growth)
        if span is None:
            return None
    return span


def _sliding_moment(sides, ratio):
    """An inner moment at which the posts of a row may be on the sides, or None."""
    rows = _rows_on(sides, ratio)
    if rows is None:
        return None
    base, ways = rows
    # The moment is the last unknown: if it is free, the last way is that along which it grows.
    if ways[-1][MOMENT] == ZERO:
        span = (base[MOMENT], base[MOMENT])
        return inner_moment(span) if is_share(base[MOMENT]) else None
    span = _span(_rules(sides, base, ways))
    return None if span is None else inner_moment(span)


def slide(sides, ratio):
    """An inner moment and the posts of a frame that stands then on four moving sides whose sign is 0, or None."""
    moment = _sliding_moment(sides, ratio)
    if moment is None:
        return None
    frames = ends_on([at_moment(side, moment) for side in sides], ratio)
    return (moment, frames[0]) if frames else None

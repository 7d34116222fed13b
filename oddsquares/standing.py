"""Frames with their posts on four sides. What is passed is not looked at: the callers know it.

A row of posts on the lines of the sides is told by four shares, how far along its side each post is.
"""

from oddsquares.arithmetic import ONE, ZERO, is_share, negative
from oddsquares.linear import narrowed, solutions
from oddsquares.rectangles import faults
from oddsquares.segments import lies_on
from oddsquares.vectors import moved, way_between

NOWHERE = ((0, 1), (0, 1))


def rows_on(sides, ratio):
    """The shares of all rows of posts on the lines that have no faults: base and ways, or None, as solutions tells."""
    columns = []
    for number, side in enumerate(sides):
        alone = [NOWHERE] * 4
        alone[number] = way_between(side[0], side[1])
        columns.append(faults(alone, ratio))
    starts = [side[0] for side in sides]
    columns.append([negative(fault) for fault in faults(starts, ratio)])
    return solutions([list(row) for row in zip(*columns)], 4)


def posts_at(sides, shares):
    """The posts that are so far along the sides."""
    return tuple([moved(side[0], way_between(side[0], side[1]), share) for side, share in zip(sides, shares)])


def _ends_of(base, ways):
    """Of all shares on base and ways that are from 0 to 1 the outermost: in each as many as ways are 0 or 1."""
    if not ways:
        return [base] if all([is_share(share) for share in base]) else []
    ends = []
    for place in range(4):
        for value in (ZERO, ONE):
            told = narrowed(base, ways, place, value)
            if told is not None:
                ends.extend(_ends_of(told[0], told[1]))
    return ends


def outermost(sides, base, ways):
    """Unlike frames on the sides, with all others between them: two or more, if more than one stands there."""
    found = []
    for shares in _ends_of(base, ways):
        posts = posts_at(sides, shares)
        if posts[0] != posts[1] and posts not in found:
            found.append(posts)
    return found


def halfway(one, other):
    """The frame halfway between two frames that stand on the same sides."""
    return tuple([moved(start, way_between(start, end), (1, 2)) for start, end in zip(one, other)])


def are_on(sides, posts):
    """Whether each post lies on its side."""
    return all([lies_on(post, side) for post, side in zip(posts, sides)])

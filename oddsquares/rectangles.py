"""Rectangles of a ratio, told by four posts. What is passed is not looked at: the callers know it."""

from oddsquares.arithmetic import ZERO, difference
from oddsquares.vectors import stretched, turned, way_between


def faults(posts, ratio):
    """Four numbers, linear in the posts: all are 0 if p3 - p0 is ratio times p1 - p0 turned, and p2 is p1 + p3 - p0."""
    along = way_between(posts[0], posts[1])
    up = way_between(posts[0], posts[3])
    across = stretched(turned(along), ratio)
    opposite = way_between(posts[1], posts[2])
    return [difference(up[0], across[0]), difference(up[1], across[1]),
            difference(opposite[0], up[0]), difference(opposite[1], up[1])]


def is_rectangle(posts, ratio):
    """Whether four posts are a frame of the ratio, as they are told."""
    return posts[0] != posts[1] and faults(posts, ratio) == [ZERO] * 4

"""Fours: four sides of a lot, and which frames stand on them."""

from oddsquares.arguments import ratio_in
from oddsquares.arithmetic import is_share
from oddsquares.determinants import determinant_of
from oddsquares.lot_arguments import check_lot, four_in
from oddsquares.papers import Denial, Paper
from oddsquares.standing import halfway, outermost, posts_at, rows_on
from oddsquares.vectors import way_between


class One(Paper):
    """Just one frame stands on the four."""

    def __init__(self, posts):
        super().__init__("one", posts)
        self.posts = self.parts[0]


class Many(Paper):
    """More than one frame stands on the four; these are two of them."""

    def __init__(self, one, other):
        super().__init__("many", one, other)
        self.one, self.other = self.parts


class Tiny(Denial):
    """The determinant is not 0, and the one row of posts on the lines is one point four times."""

    def __init__(self, point):
        super().__init__("tiny", point)
        self.point = self.parts[0]


class Off(Denial):
    """The determinant is not 0, and of the one frame on the lines this post, the least such, is not on its side."""

    def __init__(self, posts, post):
        super().__init__("off", posts, post)
        self.posts, self.post = self.parts


class Askew(Denial):
    """The determinant is 0, and no frame stands on the four."""

    def __init__(self):
        super().__init__("askew")


def determinant(lot, four, ratio):
    """The determinant of a four for a ratio, a number."""
    check_lot(lot)
    sides = [lot.side(at) for at in four_in(lot, four)]
    return determinant_of([way_between(start, end) for start, end in sides], ratio_in(ratio))


def _told_one(sides, shares):
    """What is told of the only row of posts on the lines."""
    posts = posts_at(sides, shares)
    if posts[0] == posts[1]:
        return Tiny(posts[0])
    for post, share in enumerate(shares):
        if not is_share(share):
            return Off(posts, post)
    return One(posts)


def _told_many(sides, base, ways):
    """What is told if the lines have endlessly many rows of posts."""
    frames = outermost(sides, base, ways)
    if not frames:
        return Askew()
    if len(frames) == 1:
        return One(frames[0])
    # The one halfway is never the first one told from another of its posts, as the second one may be.
    return Many(frames[0], halfway(frames[0], frames[1]))


def on_four(lot, four, ratio):
    """Which frames stand on a four: One, Many, Tiny, Off or Askew."""
    check_lot(lot)
    sides = [lot.side(at) for at in four_in(lot, four)]
    rows = rows_on(sides, ratio_in(ratio))
    if rows is None:
        return Askew()
    base, ways = rows
    if not ways:
        return _told_one(sides, base)
    return _told_many(sides, base, ways)

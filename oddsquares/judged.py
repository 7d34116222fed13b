"""Which frames stand on a lot: the rows of a plain lot, or a bar."""

from oddsquares.arguments import ratio_in
from oddsquares.boxes import likely_fours
from oddsquares.errors import TooMany
from oddsquares.lines import Lines
from oddsquares.lot_arguments import check_lot
from oddsquares.papers import Denial, Paper
from oddsquares.rounds import kind_of, least_fours, word_of

MOST_SIDES = 16


class Plain(Paper):
    """The lot is plain; these are the rows of all frames that stand on it."""

    def __init__(self, rows):
        super().__init__("plain", rows)
        self.rows = self.parts[0]


class Barred(Denial):
    """A frame stands on the lot that has this post at a corner."""

    def __init__(self, posts, post):
        super().__init__("barred", posts, post)
        self.posts, self.post = self.parts


def _frame_on(lines, four, size):
    """The posts of the frame that stands on a four with this size, or None.

    A frame on a four with the size 0 need not be found. It can slide on till a post is at a corner at which the fence
    bends; there it lies on the other side of the corner, too. If the size is 0 by this side as well, the posts can
    slide on with this one at its corner, till a second one is at such a corner. Of the fours to which two such corners
    belong, one has a size other than 0: so there is a bar that is found.
    """
    told = lines.stretch(four, size) if size != 0 else None
    if told is None:
        return None
    posts = told[1][0]
    return posts if posts[0] != posts[1] else None


def _post_at(corners, posts):
    """The number of the first of the posts that is at one of the corners, or None."""
    for post, place in enumerate(posts):
        if place in corners:
            return post
    return None


def _judged(lot, ratio):
    """As judged, for a ratio that is a pair."""
    sides = [[lot.side(at)] for at in lot.sides]
    lines = Lines(sides, ratio)
    corners = {corner: True for fence in lot.fences for corner in fence.corners}
    rows = []
    for four in least_fours(likely_fours(sides, ratio), lot.sides, ratio):
        size = lines.size(four)
        posts = _frame_on(lines, four, size)
        if posts is None:
            continue
        post = _post_at(corners, posts)
        if post is not None:
            return Barred(posts, post)
        told = tuple([lot.sides[number] for number in four])
        rows.append((word_of(told), told, posts, kind_of(word_of(told), size, ratio)))
    # Rows have unlike fours: so no posts are compared, which are not ordered by size.
    return Plain(sorted(rows))


def judged(lot, ratio):
    """The Plain of the rows of all frames that stand on the lot, or a Barred."""
    check_lot(lot)
    size = ratio_in(ratio)
    if len(lot.sides) > MOST_SIDES:
        raise TooMany("sides", MOST_SIDES)
    return _judged(lot, size)

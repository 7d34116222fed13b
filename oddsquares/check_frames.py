"""Whether values are right papers of the frames on lots."""

from oddsquares.arguments import ratio_in
from oddsquares.checks import is_within
from oddsquares.frames import places
from oddsquares.judged import Barred, judged
from oddsquares.rectangles import is_rectangle
from oddsquares.sameness import are_told_posts, is_same_paper


def _is_right_bar(lot, ratio, posts, post):
    """Whether any values are the posts of a bar and the number of one of them that is at a corner."""
    if not are_told_posts(posts) or not is_rectangle(posts, ratio) or not is_within(post, 0, 3):
        return False
    told = places(lot, posts)
    return all([len(sides) > 0 for sides in told]) and len(told[post]) > 1


def shows_judged(lot, ratio, value):
    """Whether any value is the Plain, or a right Barred, of the lot and the ratio."""
    right = judged(lot, ratio)
    if isinstance(right, Barred) and type(value) is type(right):
        return _is_right_bar(lot, ratio_in(ratio), value.posts, value.post)
    return is_same_paper(value, right)

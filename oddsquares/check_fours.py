"""Whether values are right papers of fours."""

from oddsquares.arguments import ratio_in
from oddsquares.fours import Many, on_four
from oddsquares.lot_arguments import four_in
from oddsquares.rectangles import is_rectangle
from oddsquares.sameness import are_told_posts, is_same_paper
from oddsquares.standing import are_on


def _is_frame_on(sides, posts, ratio):
    """Whether any value is the posts of a frame that stands on the sides, as papers have them."""
    return are_told_posts(posts) and is_rectangle(posts, ratio) and are_on(sides, posts)


def shows_four(lot, four, ratio, value):
    """Whether any value is a right paper of the frames on this four."""
    right = on_four(lot, four, ratio)
    if isinstance(right, Many) and type(value) is type(right):
        sides = [lot.side(at) for at in four_in(lot, four)]
        size = ratio_in(ratio)
        return all([_is_frame_on(sides, posts, size) for posts in value.parts]) and value.one != value.other
    return is_same_paper(value, right)

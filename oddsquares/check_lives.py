"""Whether values are right papers of the lives of films."""

from oddsquares.arguments import ratio_in
from oddsquares.determinants import determinant_of
from oddsquares.frames import places
from oddsquares.lives import Jammed, judged_lives
from oddsquares.rectangles import is_rectangle
from oddsquares.sameness import are_told_posts, is_same_paper, is_told_moment
from oddsquares.spans import is_inner
from oddsquares.vectors import way_between


def _has_sign_0(lot, told, ratio):
    """Whether the posts that lie on the told sides, one or two for each, lie on four sides that have the sign 0."""
    fours = [(a, b, c, d) for a in told[0] for b in told[1] for c in told[2] for d in told[3]]
    ways = {at: way_between(lot.side(at)[0], lot.side(at)[1]) for four in fours for at in four}
    return any([determinant_of([ways[at] for at in four], ratio)[0] == 0 for four in fours])


def _is_right_jam(film, ratio, moment, posts):
    """Whether any values are what a right Jammed of the film and the ratio tells."""
    if not is_told_moment(moment) or not are_told_posts(posts) or not is_rectangle(posts, ratio):
        return False
    lot = film.at(moment)
    told = places(lot, posts)
    if not all([len(sides) > 0 for sides in told]):
        return False
    corners = [sides for sides in told if len(sides) > 1]
    if not is_inner(moment):
        return len(corners) > 0
    return len(corners) > 1 or _has_sign_0(lot, told, ratio)


def shows_lives(film, ratio, value):
    """Whether any value is the Living, or a right Jammed, of the film and the ratio."""
    right = judged_lives(film, ratio)
    if isinstance(right, Jammed) and type(value) is type(right):
        return _is_right_jam(film, ratio_in(ratio), value.moment, value.posts)
    return is_same_paper(value, right)

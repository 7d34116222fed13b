"""Whether values are right papers of films being safe or not."""

from oddsquares.films import is_film_side
from oddsquares.safe import Touch, are_next_sides, judged_film
from oddsquares.sameness import is_same_paper, is_told_moment, is_told_point
from oddsquares.segments import lies_on
from oddsquares.spans import is_inner


def _corner_between(film, one, other, moment):
    """The corner of two neighbours, one less than other, at a moment."""
    behind = other if other[1] == one[1] + 1 else one
    return film.side(behind, moment)[0]


def _is_right_touch(film, moment, one, other, point):
    """Whether any values are what a right Touch of the film tells."""
    if not is_told_moment(moment) or not is_inner(moment) or not is_told_point(point):
        return False
    if not is_film_side(film, one) or not is_film_side(film, other) or one >= other:
        return False
    if are_next_sides(film, one, other) and point == _corner_between(film, one, other, moment):
        return False
    return lies_on(point, film.side(one, moment)) and lies_on(point, film.side(other, moment))


def shows_safe(film, value):
    """Whether any value is a right Safe or Touch of the film."""
    right = judged_film(film)
    if isinstance(right, Touch) and type(value) is type(right):
        return _is_right_touch(film, value.moment, value.one, value.other, value.point)
    return is_same_paper(value, right)

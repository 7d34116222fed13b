"""Frames: their readings, places, and rows on a lot."""

from oddsquares.arguments import posts_in, ratio_in
from oddsquares.checks import are_points
from oddsquares.determinants import determinant_of
from oddsquares.errors import Misfit
from oddsquares.lot_arguments import check_lot
from oddsquares.rectangles import is_rectangle
from oddsquares.rounds import from_each, kind_of, word_of
from oddsquares.segments import lies_on
from oddsquares.vectors import way_between


def _is_told_frame(posts, ratio):
    """Whether any value is the posts of a frame of a ratio that is a pair."""
    return are_points(posts, 4, 4) and is_rectangle(posts_in(posts, "posts"), ratio)


def is_frame(posts, ratio):
    """Whether any value is four points that are a frame of this ratio, as they are told."""
    return _is_told_frame(posts, ratio_in(ratio))


def readings(posts, ratio):
    """The readings of a frame, the told one first, then on, left-hand round."""
    told = posts_in(posts, "posts")
    size = ratio_in(ratio)
    if not is_rectangle(told, size):
        raise Misfit("posts")
    return from_each(told, size)


def _places(lot, posts):
    """For each post the sides of the lot on which it lies."""
    return tuple([tuple([at for at in lot.sides if lies_on(post, lot.side(at))]) for post in posts])


def places(lot, posts):
    """For each of four points the sides of the lot on which it lies, ascending."""
    check_lot(lot)
    return _places(lot, posts_in(posts, "posts"))


def stands(lot, posts, ratio):
    """Whether any value is a frame of this ratio, as it is told, that stands on the lot."""
    check_lot(lot)
    if not _is_told_frame(posts, ratio_in(ratio)):
        return False
    return all([len(sides) > 0 for sides in _places(lot, posts_in(posts, "posts"))])


def _four_of(lot, posts):
    """The sides of the posts, if each post lies on just one side; otherwise None."""
    told = _places(lot, posts)
    if any([len(sides) != 1 for sides in told]):
        return None
    return tuple([sides[0] for sides in told])


def _size_of(lot, four, ratio):
    """The top of the determinant of a four for a ratio."""
    sides = [lot.side(at) for at in four]
    return determinant_of([way_between(start, end) for start, end in sides], ratio)[0]


def row_of(lot, posts, ratio):
    """The row (word, four, posts, kind) of a frame, told at any of its readings."""
    check_lot(lot)
    told = posts_in(posts, "posts")
    size = ratio_in(ratio)
    four = _four_of(lot, told)
    if not is_rectangle(told, size) or four is None or _size_of(lot, four, size) == 0:
        raise Misfit("posts")
    # Readings have unlike fours: so nothing behind the fours is compared.
    rows = zip(from_each(four, size), from_each(told, size))
    word, least, first = min([(word_of(sides), sides, row) for sides, row in rows])
    return (word, least, first, kind_of(word, _size_of(lot, least, size), size))

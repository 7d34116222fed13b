"""What a desk answers to lines that change nothing: a tuple of strings for each, by its lot and its ratio.

Each function is called with the lot, the ratio and what stands behind the first word of the line.
"""

from oddsquares.earfilms import ear_film
from oddsquares.ears import ears
from oddsquares.exact import number_text
from oddsquares.found import found
from oddsquares.gaps import gap
from oddsquares.hinges import Loose, hinge_sums, judged_hinges
from oddsquares.judged import judged
from oddsquares.lives import judged_lives
from oddsquares.lot_texts import lot_text
from oddsquares.near import Far, near
from oddsquares.pictures import picture
from oddsquares.points import point_text
from oddsquares.staircases import staircase
from oddsquares.stories import story
from oddsquares.sums import sums


def _counts(numbers):
    """Integers with single blanks between."""
    return " ".join([str(number) for number in numbers])


def _points(points):
    """The texts of points with single blanks between."""
    return " ".join([point_text(point) for point in points])


def _headed(word, rows):
    """A word and behind it all integers of some rows, with single blanks between."""
    return " ".join([word] + [_counts(row) for row in rows])


def _sums_lines(triples):
    """A line for each triple: its word, how many, and their sum."""
    return tuple([_counts(word + (many, total)) for word, many, total in triples])


def _show(lot, _):
    """The lines of the lot's text."""
    return tuple(lot_text(lot).split("\n"))


def _gap(lot, _):
    """The squared gap, the two sides and the two points; or that there is none."""
    told = gap(lot)
    if told is None:
        return ("none",)
    sides = _counts(told.one + told.other)
    return (f"{number_text(told.squared)} {sides} {_points((told.here, told.there))}",)


def _ears(lot, _, fence):
    """The ears of a fence."""
    return (_headed("ears", [(corner,) for corner in ears(lot, fence)]),)


def _frames(lot, ratio):
    """A line for each row; or a bar."""
    told = judged(lot, ratio)
    if not told:
        return (f"barred {told.post}", _points(told.posts))
    lines = [f"{_counts(word + (kind,))} {_points(posts)}" for word, _, posts, kind in told.rows]
    return (f"plain {len(lines)}", *lines)


def _sums(lot, ratio):
    """A line for each word of the rows."""
    told = judged(lot, ratio)
    if not told:
        return ("barred",)
    return _sums_lines(sums(told))


def _square(lot, _):
    """The posts of a square."""
    return (_points(found(lot)),)


def _film(lot, ratio, fence, corner):
    """The staircase of the film of an ear; or the moment of a jam."""
    told = judged_lives(ear_film(lot, fence, corner), ratio)
    if not told:
        return (f"jammed {number_text(told.moment)}",)
    steps = [f"{number_text(moment)} {many}" for moment, many in staircase(told)]
    return (f"lives {len(told.lives)} knocks {len(told.knocks)}", *steps)


def _story(lot, _, fence, *cuts):
    """The squares of the story of a fence, in pairs; or the step at which it is halted."""
    told = story(lot, fence, cuts)
    if not told:
        return (f"halted {told.step}",)
    return (_headed("pairs", told.pairs), _headed("home", told.home), _headed("back", told.back))


def _near(lot, _, other):
    """The triples of another ratio; or how it is not near."""
    told = near(lot, other)
    if told:
        return (_headed("near", told.triples),)
    if isinstance(told, Far):
        return (f"far {told.square}",)
    return ("barred",)


def _hinges(lot, _, fence, side, share, *turn):
    """A line for each word of the hinges; or that they are loose."""
    told = judged_hinges(lot, (fence, side), share, turn)
    if isinstance(told, Loose):
        return (f"loose {_points((told.q, told.image))}",)
    lines = _sums_lines(hinge_sums(told))
    return (f"hinged {len(told.rows)}", *lines)


def _picture(lot, _, wide, high):
    """The lot without frames."""
    return picture(lot, (), wide, high)


ANSWERS = {
    "show": _show,
    "gap": _gap,
    "ears": _ears,
    "frames": _frames,
    "sums": _sums,
    "square": _square,
    "film": _film,
    "story": _story,
    "near": _near,
    "hinges": _hinges,
    "picture": _picture,
}

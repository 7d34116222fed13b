"""A fence that is blown until no frame has posts on it and on another fence; which frames are partners on the way."""

from oddsquares.arguments import ratio_in
from oddsquares.arithmetic import ONE
from oddsquares.chains import joined
from oddsquares.judged import judged
from oddsquares.motions import blown_row, film_of
from oddsquares.papers import Denial, Paper


class Emptied(Paper):
    """No row is mixed at last; these are the pairs of partners of those that are mixed at first."""

    def __init__(self, pairs):
        super().__init__("emptied", pairs)
        self.pairs = self.parts[0]


class Left(Denial):
    """These rows are mixed at last."""

    def __init__(self, rows):
        super().__init__("left", rows)
        self.rows = self.parts[0]


def _is_mixed(row, fence):
    """Whether the word of a row has the number of a fence, and another one."""
    word = row[0]
    return fence in word and word != (fence,) * 4


def _mixed_pairs(pairs, rows, fence):
    """Of all pairs of partners of a film those of rows of the first lot that are mixed, told by their numbers.

    Partners have like words, and at last no row is mixed: so the partner of a mixed row is one of the first lot, too.
    """
    return [(one, other) for (moment, one), (_, other) in pairs if moment == 0 and _is_mixed(rows[one], fence)]


def emptied(lot, fence, spot, share, ratio):
    """The Emptied of a lot in which a fence is blown about a spot to a share; otherwise a Left, or a Jammed."""
    last = blown_row(lot, fence, spot, share)
    size = ratio_in(ratio)
    film = film_of(lot, fence, last)
    told = joined(film, size)
    if not told:
        return told
    left = [row for row in judged(film.at(ONE), size).rows if _is_mixed(row, fence)]
    if left:
        return Left(left)
    return Emptied(_mixed_pairs(told.pairs, judged(lot, size).rows, fence))

"""A square that stands on a lot, whether the lot is plain or not."""

from oddsquares.arithmetic import ONE
from oddsquares.judged import judged


def found(lot):
    """The posts of a square that stands on the lot: on a plain lot squares are odd in number, so there is a row."""
    told = judged(lot, ONE)
    if not told:
        return told.posts
    return told.rows[0][2]

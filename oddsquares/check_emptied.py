"""Whether values are right papers of fences that are blown until they are emptied."""

from oddsquares.check_lives import shows_lives
from oddsquares.emptied import emptied
from oddsquares.lives import Jammed
from oddsquares.motions import blown
from oddsquares.sameness import is_same_paper


def shows_emptied(lot, fence, spot, share, ratio, value):
    """Whether any value is the Emptied or the Left that is told, or a right Jammed where one is told."""
    right = emptied(lot, fence, spot, share, ratio)
    if isinstance(right, Jammed):
        return shows_lives(blown(lot, fence, spot, share), ratio, value)
    return is_same_paper(value, right)

"""Whether values are right papers of near squares."""

from oddsquares.arithmetic import ONE
from oddsquares.check_frames import shows_judged
from oddsquares.judged import Barred, judged
from oddsquares.near import near
from oddsquares.sameness import is_same_paper


def shows_near(lot, ratio, value):
    """Whether any value is the Near or the Far of the lot and the ratio, or a right Barred for 1 or for the ratio."""
    right = near(lot, ratio)
    if not isinstance(right, Barred):
        return is_same_paper(value, right)
    if judged(lot, ONE):
        return shows_judged(lot, ratio, value)
    return shows_judged(lot, ONE, value)

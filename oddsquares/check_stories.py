"""Whether values are right papers of stories."""

from oddsquares.arithmetic import ONE
from oddsquares.check_lives import shows_lives
from oddsquares.sameness import is_same, is_same_paper
from oddsquares.stories import Halted, films_of, story


def shows_story(lot, fence, cuts, value):
    """Whether any value is the Story, or a Halted of the first film that is not plain and of a right Jammed of it."""
    right = story(lot, fence, cuts)
    if isinstance(right, Halted) and type(value) is type(right):
        film = films_of(lot, fence, cuts)[right.step]
        return is_same(value.step, right.step) and shows_lives(film, ONE, value.why)
    return is_same_paper(value, right)

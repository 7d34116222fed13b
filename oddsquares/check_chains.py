"""Whether values are right papers of chains and of partners."""

from oddsquares.chains import chains_of, joined
from oddsquares.check_lives import shows_lives
from oddsquares.lives import Jammed
from oddsquares.sameness import is_same_paper


def shows_chains(living, value):
    """Whether any value is the Chains of the Living."""
    return is_same_paper(value, chains_of(living))


def shows_joined(film, ratio, value):
    """Whether any value is the Joined of the film and the ratio, or a right Jammed."""
    right = joined(film, ratio)
    if isinstance(right, Jammed) and type(value) is type(right):
        return shows_lives(film, ratio, value)
    return is_same_paper(value, right)

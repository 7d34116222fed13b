"""Counts and sums of kinds of rows."""

from oddsquares.errors import BadPaper
from oddsquares.judged import Plain


def sums(plain):
    """For each word of the rows of a Plain (word, how many rows have it, the sum of their kinds), ascending."""
    if type(plain) != Plain:
        raise BadPaper("plain")
    kinds = {}
    for word, _, _, kind in plain.rows:
        kinds.setdefault(word, []).append(kind)
    return tuple([(word, len(kinds[word]), sum(kinds[word])) for word in sorted(kinds)])

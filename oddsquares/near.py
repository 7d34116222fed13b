"""Rectangles that are nearly squares: whether they stand beside the squares of a lot."""

from oddsquares.arguments import ratio_in
from oddsquares.arithmetic import ONE
from oddsquares.errors import Misfit, TooMany
from oddsquares.fours import on_four
from oddsquares.judged import judged
from oddsquares.lot_arguments import check_lot
from oddsquares.papers import Denial, Paper
from oddsquares.rounds import from_each

MOST_HALVINGS = 60


class Near(Paper):
    """The ratio is near; each triple tells a square and the rows beside it, of the kind 1 and of the kind -1."""

    def __init__(self, triples):
        super().__init__("near", triples)
        self.triples = self.parts[0]


class Far(Denial):
    """The ratio is not near; this square, the first such, has not just two rows of unlike kinds beside it.

    If all squares have, the number is that of the squares, and a row is beside none of them.
    """

    def __init__(self, square):
        super().__init__("far", square)
        self.square = self.parts[0]


def _triples(squares, rows):
    """For each square, in order, the triple of its number and those of the rows beside it; None if these do not fit."""
    numbers = {row[1]: number for number, row in enumerate(rows)}
    triples = []
    for square, (_, four, _, _) in enumerate(squares):
        beside = {rows[numbers[turned]][3]: numbers[turned] for turned in from_each(four, ONE) if turned in numbers}
        triples.append((square, beside[1], beside[-1]) if len(beside) == 2 else None)
    return triples


def _told(squares, told):
    """What is told of the Plain of ratio 1 and of what is judged for another ratio."""
    if not told:
        return told
    triples = _triples(squares.rows, told.rows)
    if None in triples:
        return Far(triples.index(None))
    # Squares have unlike fours, whichever side these are told from: so no row is beside two of them.
    if len(told.rows) > 2 * len(triples):
        return Far(len(triples))
    return Near(triples)


def near(lot, ratio):
    """The Near of a lot and a ratio that is near for it; otherwise a Far, or a Barred for 1 or for the ratio."""
    check_lot(lot)
    size = ratio_in(ratio)
    if size == ONE:
        raise Misfit("ratio")
    squares = judged(lot, ONE)
    if not squares:
        return squares
    return _told(squares, judged(lot, size))


def _stand_beside(lot, squares, ratio):
    """Whether frames of the ratio stand on the fours of all squares, told from p0 and p1: they do if it is near."""
    for _, four, _, _ in squares:
        for told in (four, four[1:] + four[:1]):
            if not on_four(lot, told, ratio):
                return False
    return True


def near_ratio(lot):
    """The first of 1 + 1/2, 1 + 1/4, 1 + 1/8, .. that is near for the lot."""
    squares = judged(lot, ONE)
    if not squares:
        raise Misfit("lot")
    for halving in range(1, MOST_HALVINGS + 1):
        under = 1 << halving
        ratio = (under + 1, under)
        # Most ratios that are not near are ruled out without going through all fours.
        if _stand_beside(lot, squares.rows, ratio) and _told(squares, judged(lot, ratio)):
            return ratio
    raise TooMany("halvings", MOST_HALVINGS)

"""A desk: it keeps a lot and a ratio, and does what lines say."""

from oddsquares.answers import ANSWERS
from oddsquares.arguments import ratio_in
from oddsquares.arithmetic import ONE
from oddsquares.checks import is_row
from oddsquares.ears import cut
from oddsquares.errors import BadText, Misfit
from oddsquares.exact import number_text
from oddsquares.fences import Fence
from oddsquares.lot_arguments import check_fence_of
from oddsquares.lots import Lot
from oddsquares.reader import read_line

MOST_LINES = 200


def _put(lot, ratio, *corners):
    """The lot with one fence more."""
    fences = () if lot is None else lot.fences
    return Lot(fences + (Fence(corners),)), ratio, f"fence {len(fences)}"


def _drop(lot, ratio, fence):
    """The lot without a fence; None if none is left."""
    check_fence_of(lot, fence)
    left = [number for number in range(len(lot)) if number != fence]
    rest = lot.only(left) if left else None
    return rest, ratio, f"left {len(left)}"


def _take_ratio(lot, _, ratio):
    """Another ratio."""
    size = ratio_in(ratio)
    return lot, size, f"ratio {number_text(size)}"


def _cut(lot, ratio, fence, corner):
    """The lot in which an ear is cut."""
    shorter = cut(lot, fence, corner)
    return shorter, ratio, f"corners {len(shorter.fences[fence])}"


# Each is called with the lot, the ratio and what stands behind the first word of the line. It returns what the lot and
# the ratio are then, and the answer.
DEEDS = {"fence": _put, "drop": _drop, "ratio": _take_ratio, "cut": _cut}
WITHOUT_A_LOT = ("fence", "ratio", "undo")


class Desk:
    """A desk: lot is None as long as there is no fence; deeds is how many deeds can be undone."""

    def __init__(self):
        self.lot = None
        self.ratio = ONE
        self.deeds = 0
        # The lot and the ratio as they were ahead of each deed that can be undone.
        self.past = []

    def do(self, line):
        """The answer to a line, behind what it says is done."""
        word, *parts = read_line(line)
        if self.lot is None and word not in WITHOUT_A_LOT:
            raise Misfit("lot")
        if word == "undo":
            return self._undo()
        if word not in DEEDS:
            answer = ANSWERS[word]
            return answer(self.lot, self.ratio, *parts)
        deed = DEEDS[word]
        lot, ratio, told = deed(self.lot, self.ratio, *parts)
        self.past.append((self.lot, self.ratio))
        self._keep(lot, ratio)
        return (told,)

    def do_all(self, lines):
        """The answers to all lines; if one raises an error the desk stays as it was."""
        if not is_row(lines) or len(lines) > MOST_LINES:
            raise BadText("lines")
        other = Desk()
        other.past = list(self.past)
        other._keep(self.lot, self.ratio)
        answers = tuple([other.do(line) for line in lines])
        self.past = other.past
        self._keep(other.lot, other.ratio)
        return answers

    def _keep(self, lot, ratio):
        """The lot and the ratio from now on; the past is what it is."""
        self.lot = lot
        self.ratio = ratio
        self.deeds = len(self.past)

    def _undo(self):
        """What was ahead of the last deed that was not undone."""
        if not self.past:
            raise Misfit("undo")
        lot, ratio = self.past.pop()
        self._keep(lot, ratio)
        return ("undone",)

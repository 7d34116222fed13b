"""Stories: a fence is led on by cutting its ears, and its squares find partners or come home."""

from oddsquares.arithmetic import ONE
from oddsquares.chains import joined
from oddsquares.earfilms import ear_film
from oddsquares.ears import are_cuts, cut
from oddsquares.errors import BadEars, TooMany
from oddsquares.lot_arguments import check_fence_of
from oddsquares.papers import Denial, Paper

MOST_SIDES = 13


class Story(Paper):
    """All films are plain: the pairs of the first lot, who comes home, and the pairs of the last lot."""

    def __init__(self, pairs, home, back):
        super().__init__("story", pairs, home, back)
        self.pairs, self.home, self.back = self.parts


class Halted(Denial):
    """The film of this step is the first one that is not plain; why is a Jammed of it."""

    def __init__(self, step, why):
        super().__init__("halted", step, why)
        self.step, self.why = self.parts


def films_of(lot, fence, cuts):
    """The films of a row of cuts, one behind the other."""
    check_fence_of(lot, fence)
    if not are_cuts(lot, fence, cuts):
        raise BadEars("cuts")
    if len(lot.sides) > MOST_SIDES:
        raise TooMany("sides", MOST_SIDES)
    films = []
    for corner in cuts:
        films.append(ear_film(lot, fence, corner))
        lot = cut(lot, fence, corner)
    return films


def _partners(pairs):
    """For each frame (moment, row) of a film its partner."""
    partners = {one: other for one, other in pairs}
    partners.update({other: one for one, other in pairs})
    return partners


def _goal(films, number, frame):
    """Where one comes from a frame of the first lot or of the last one: (step, row), step counting the lots.

    films has the partners of each film; number is that of the film in which one begins.
    """
    moment, row = films[number][frame]
    while number + moment not in (0, len(films)):
        number = number + 1 if moment == 1 else number - 1
        moment, row = films[number][(1 - moment, row)]
    return (number + moment, row)


def _told(films):
    """The Story of the partners of each film."""
    last = len(films)
    first_goals = [(row, _goal(films, 0, (moment, row))) for moment, row in sorted(films[0]) if moment == 0]
    last_goals = [(row, _goal(films, last - 1, (moment, row))) for moment, row in sorted(films[-1]) if moment == 1]
    pairs = [(row, goal[1]) for row, goal in first_goals if goal[0] == 0 and row < goal[1]]
    home = [(row, goal[1]) for row, goal in first_goals if goal[0] == last]
    back = [(row, goal[1]) for row, goal in last_goals if goal[0] == last and row < goal[1]]
    return Story(pairs, home, back)


def story(lot, fence, cuts):
    """The Story of a fence and the cuts of its ears, or the Halted of the first film that is not plain."""
    films = []
    for step, film in enumerate(films_of(lot, fence, cuts)):
        told = joined(film, ONE)
        if not told:
            return Halted(step, told)
        films.append(_partners(told.pairs))
    return _told(films)

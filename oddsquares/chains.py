"""Chains of lives, and which frames are partners at both ends of a film."""

from oddsquares.arithmetic import ONE, ZERO
from oddsquares.lives import check_living, judged_lives
from oddsquares.papers import Paper

# The ends of a life; a tip at moment 0 is a birth, one at moment 1 a death.
BIRTH = 0
DEATH = 1


class Chains(Paper):
    """The chains and the rings of the lives of a film."""

    def __init__(self, chains, rings):
        super().__init__("chains", chains, rings)
        self.chains, self.rings = self.parts


class Joined(Paper):
    """The pairs of partners of a film."""

    def __init__(self, pairs):
        super().__init__("joined", pairs)
        self.pairs = self.parts[0]


def _tips(lives):
    """All tips (moment, life, germ), ascending."""
    births = [(BIRTH, number, life[4][0] == life[4][1]) for number, life in enumerate(lives) if life[2] == ZERO]
    deaths = [(DEATH, number, life[5][0] == life[5][1]) for number, life in enumerate(lives) if life[3] == ONE]
    return births + deaths


def _knocked(living):
    """For each end of a life that is in a knock, a pair (its number, BIRTH or DEATH), the end of the other life."""
    others = {}
    for moment, _, one, other, _ in living.knocks:
        ends = [(number, DEATH if living.lives[number][3] == moment else BIRTH) for number in (one, other)]
        others[ends[0]] = ends[1]
        others[ends[1]] = ends[0]
    return others


def _links(others, start):
    """The lives that one goes through from this end of a life on, and the end at which one leaves the last one.

    One goes on until there is no knock, or one has come round.
    """
    links = []
    here = start
    while here is not None and (not links or here != start):
        links.append(here[0])
        left = (here[0], 1 - here[1])
        here = others.get(left)
    return tuple(links), left


def _chains(tips, others):
    """All chains (tip, tip, links), ascending."""
    tip_at = {(number, moment): (moment, number, is_germ) for moment, number, is_germ in tips}
    chains = []
    for tip in tips:
        links, left = _links(others, (tip[1], tip[0]))
        if tip < tip_at[left]:
            chains.append((tip, tip_at[left], links))
    return chains


def _rings(many, chains, others):
    """All rings of so many lives, ascending."""
    passed = {number: True for chain in chains for number in chain[2]}
    rings = []
    for number in range(many):
        if number not in passed:
            links, _ = _links(others, (number, BIRTH))
            rings.append(links)
            passed.update({link: True for link in links})
    return rings


def chains_of(living):
    """The Chains of a Living."""
    check_living(living)
    others = _knocked(living)
    chains = _chains(_tips(living.lives), others)
    return Chains(chains, _rings(len(living.lives), chains, others))


def _linked(lives, germs):
    """For each of some germs of one moment and point, in the order of their lives, the germ with which it is linked."""
    if len(germs) == 2:
        pairs = [germs]
    else:
        above = [tip for tip in germs if lives[tip[1]][6] > 0]
        below = [tip for tip in germs if lives[tip[1]][6] < 0]
        pairs = list(zip(above, below))
    links = {one: other for one, other in pairs}
    links.update({other: one for one, other in pairs})
    return links


def _all_linked(lives, tips):
    """For each germ the germ with which it is linked."""
    places = {}
    for tip in tips:
        if tip[2]:
            point = lives[tip[1]][4 + tip[0]][0]
            places.setdefault((tip[0], point), []).append(tip)
    links = {}
    for germs in places.values():
        links.update(_linked(lives, germs))
    return links


def _frames(tips):
    """For each tip that is a frame (moment, row): the rows of a lot come in the order of the lives."""
    frames = {}
    for moment in (BIRTH, DEATH):
        told = [tip for tip in tips if tip[0] == moment and not tip[2]]
        frames.update({tip: (moment, row) for row, tip in enumerate(told)})
    return frames


def _pairs(living):
    """All pairs of partners, ascending."""
    tips = _tips(living.lives)
    frames = _frames(tips)
    links = _all_linked(living.lives, tips)
    others = {}
    for one, other, _ in _chains(tips, _knocked(living)):
        others[one] = other
        others[other] = one
    pairs = []
    for tip, frame in frames.items():
        end = others[tip]
        while end[2]:
            end = others[links[end]]
        if frame < frames[end]:
            pairs.append((frame, frames[end]))
    return pairs


def joined(film, ratio):
    """The Joined of all pairs of partners of the film, or a Jammed."""
    living = judged_lives(film, ratio)
    if not living:
        return living
    return Joined(_pairs(living))

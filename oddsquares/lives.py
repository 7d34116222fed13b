"""Lives: how frames move in a film, and whether the film is plain."""

from oddsquares.arguments import ratio_in
from oddsquares.arithmetic import ONE, ZERO, difference, is_below, pair_of, quotient, sign, whole
from oddsquares.boxes import likely_fours
from oddsquares.checks import is_number
from oddsquares.errors import BadNumber, BadPaper, Misfit, TooMany
from oddsquares.films import both_ends, check_film, moment_in
from oddsquares.judged import judged
from oddsquares.lines import Lines
from oddsquares.moving import at_moment
from oddsquares.papers import Denial, Paper, fixed
from oddsquares.rounds import least_fours, least_round, word_of
from oddsquares.safe import judged_film
from oddsquares.spans import is_inner

MOST_SIDES = 14


class Living(Paper):
    """The film is plain; these are all its lives and all its knocks."""

    def __init__(self, lives, knocks):
        super().__init__("living", lives, knocks)
        self.lives, self.knocks = self.parts


class Jammed(Denial):
    """The film is not plain: this frame, at this moment, is one that a plain film has not."""

    def __init__(self, moment, posts):
        super().__init__("jammed", moment, posts)
        self.moment, self.posts = self.parts


def _bar_of(film, ratio):
    """The Jammed of a bar of the lot at 0 or at 1, or None."""
    for moment in (ZERO, ONE):
        told = judged(film.at(moment), ratio)
        if not told:
            return Jammed(moment, told.posts)
    return None


def _neighbours(film):
    """For each side the numbers of the sides ahead of it and behind it."""
    numbers = {at: number for number, at in enumerate(film.sides)}
    counts = [len(row) for row in film.first]
    return [(numbers[(fence, (side - 1) % counts[fence])], numbers[(fence, (side + 1) % counts[fence])])
            for fence, side in film.sides]


def _other_fours(ends, neighbours, four, posts, moment):
    """For each post that is at a corner at a moment the four with the other side of this corner in its place."""
    fours = []
    for place, post in enumerate(posts):
        side = at_moment(ends[four[place]], moment)
        if post in side:
            other = neighbours[four[place]][side.index(post)]
            fours.append(four[:place] + (other,) + four[place + 1:])
    return fours


def _jam_at_ends(lines, ends, neighbours, four, told):
    """The Jammed of an inner end of the span of a four, or None; told is the span and the posts at 0 and at 1.

    If a film has a jam, one is found so, or a bar at 0 or at 1: posts that are at corners within the span, but not just
    at its ends, are there all the time; and a frame on a four of the sign 0 can slide on, at its moment, till it lies
    on another four, too, whose sign is not 0: see _frame_on in judged.py.
    """
    span, posts = told
    for moment in span:
        if is_inner(moment):
            now = at_moment(posts, moment)
            others = _other_fours(ends, neighbours, four, now, moment)
            if len(others) > 1 or lines.size(others[0]) == 0:
                return Jammed(moment, now)
    return None


def _course(lines, four):
    """The span and the posts at 0 and at 1 of a four with a sign; None if it has no span, or its posts are a point."""
    size = lines.size(four)
    told = lines.stretch(four, size) if size != 0 else None
    if told is None:
        return None
    first, last = told[1]
    return None if first[0] == first[1] and last[0] == last[1] else told


def _life(film, lines, four, told):
    """The life of a four, by its span and its posts at 0 and at 1."""
    (birth, death), posts = told
    sides = tuple([film.sides[number] for number in four])
    born, dead = at_moment(posts, birth), at_moment(posts, death)
    return (word_of(sides), sides, birth, death, born, dead, sign(lines.size(four)))


def _lives_of(film, ratio):
    """All lives, ascending, or a Jammed of an inner moment."""
    ends = both_ends(film)
    lines = Lines(ends, ratio)
    neighbours = _neighbours(film)
    lives = []
    for four in least_fours(likely_fours(ends, ratio), film.sides, ratio):
        told = _course(lines, four)
        if told is None:
            continue
        jam = _jam_at_ends(lines, ends, neighbours, four, told)
        if jam is not None:
            return jam
        if told[0][0] != told[0][1]:
            lives.append(_life(film, lines, four, told))
    # Lives have unlike fours: so no moments are compared, which are not ordered by size.
    return sorted(lives)


def _knock(lives, one, other):
    """The knock of two ends of lives, each told by the number of the life and whether it is its death."""
    (number, is_death), (other_number, is_other_death) = one, other
    life = lives[number]
    moment, posts = (life[3], life[5]) if is_death else (life[2], life[4])
    if is_death != is_other_death:
        return (moment, posts, number, other_number, "hand")
    return (moment, posts, number, other_number, "meet" if is_death else "part")


def _knocks_of(lives):
    """All knocks of the lives of a plain film, ascending."""
    met = {}
    for number, life in enumerate(lives):
        for moment, posts, is_death in ((life[2], life[4], False), (life[3], life[5], True)):
            if is_inner(moment):
                met.setdefault((moment, least_round(posts)), []).append((number, is_death))
    knocks = [_knock(lives, ends[0], ends[1]) for ends in met.values()]
    tops = whole([knock[0] for knock in knocks])[0]
    ordered = sorted([(top, knock[2], knock[3], knock) for top, knock in zip(tops, knocks)])
    return [row[3] for row in ordered]


def _told_lives(film, ratio):
    """As judged_lives, for a safe film and a ratio that is a pair."""
    jam = _bar_of(film, ratio)
    if jam is not None:
        return jam
    lives = _lives_of(film, ratio)
    if isinstance(lives, Jammed):
        return lives
    return Living(lives, _knocks_of(lives))


def judged_lives(film, ratio):
    """The Living of all lives and knocks of the film, or a Jammed."""
    check_film(film)
    size = ratio_in(ratio)
    if not judged_film(film):
        raise Misfit("film")
    if len(film.sides) > MOST_SIDES:
        raise TooMany("sides", MOST_SIDES)
    return _told_lives(film, size)


def _posts_at(life, moment):
    """The posts of a life at a moment from its birth to its death."""
    birth, death, born, dead = life[2:6]
    return at_moment((born, dead), quotient(difference(moment, birth), difference(death, birth)))


def _lives_at(life, moment):
    """Whether a moment is from the birth of a life to its death."""
    return not is_below(moment, life[2]) and not is_below(life[3], moment)


def posts_at(life, moment):
    """The posts of a life at a moment from its birth to its death."""
    told = fixed(life)
    if not is_number(moment) or not _lives_at(told, pair_of(moment)):
        raise BadNumber("moment")
    return _posts_at(told, pair_of(moment))


def check_living(living):
    """BadPaper("living") for what is no Living."""
    if type(living) != Living:
        raise BadPaper("living")


def frames_at(living, moment):
    """The posts of all lives at a moment that are frames then, each frame once."""
    check_living(living)
    when = moment_in(moment, "moment")
    frames = {}
    for life in living.lives:
        if _lives_at(life, when):
            posts = _posts_at(life, when)
            if posts[0] != posts[1]:
                frames.setdefault(least_round(posts), posts)
    return tuple(frames.values())

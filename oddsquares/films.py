"""Films: fences whose corners move straight and at one pace, so that all sides keep their directions."""

from oddsquares.arguments import ratio_in
from oddsquares.arithmetic import ZERO, is_below, is_share, pair_of, sign
from oddsquares.checks import are_points, is_number, is_pair, is_row, is_within
from oddsquares.determinants import determinant_of
from oddsquares.errors import BadFilm, BadNumber, BadSides, NoFilm, TooMany
from oddsquares.fences import FEWEST_CORNERS, MOST_CORNERS, Fence, judged_corners
from oddsquares.lots import MOST_FENCES, MOST_SIDES, Lot, judged_fences
from oddsquares.moving import at_moment, direction_of
from oddsquares.segments import sides_of
from oddsquares.vectors import cross_of, dot_of, point_of, way_between

NOWHERE = ((0, 1), (0, 1))


def _rows_in(rows, counts, part):
    """The rows of corners with pairs as their numbers, as many in each as the counts tell: pairs (least, most)."""
    if not is_row(rows) or len(rows) != len(counts):
        raise BadFilm(part)
    if not all([are_points(row, least, most) for row, (least, most) in zip(rows, counts)]):
        raise BadFilm(part)
    return tuple([tuple([point_of(corner) for corner in row]) for row in rows])


def _first_in(first):
    """The rows of corners at 0."""
    if not is_row(first) or not is_within(len(first), 1, MOST_FENCES):
        raise BadFilm("first")
    return _rows_in(first, [(FEWEST_CORNERS, MOST_CORNERS)] * len(first), "first")


def _is_turned(way, other):
    """Whether two vectors other than (0, 0) have unlike directions."""
    return cross_of(way, other) != ZERO or dot_of(way, other)[0] < 0


def _fault(ways, number):
    """The word of what is wrong with a side, or None; ways are the vectors at 0 and at 1 of all sides of its fence."""
    way, other = ways[number]
    behind = ways[(number + 1) % len(ways)]
    if way == NOWHERE and other == NOWHERE:
        return "point"
    if NOWHERE not in (way, other) and _is_turned(way, other):
        return "turn"
    if (way == NOWHERE and behind[0] == NOWHERE) or (other == NOWHERE and behind[1] == NOWHERE):
        return "row"
    return None


def _check_ways(first, last):
    """NoFilm for the first side with which something is wrong."""
    for fence, (row, other) in enumerate(zip(first, last)):
        ways = [[way_between(start, end) for start, end in sides] for sides in zip(sides_of(row), sides_of(other))]
        for side in range(len(ways)):
            word = _fault(ways, side)
            if word is not None:
                raise NoFilm(word, fence, side)


def _told_once(corners):
    """The corners of a row, those that fell together told once."""
    last = len(corners) - 1
    # Behind the last side comes corner 0, which stays.
    left_out = [min(number + 1, last) for number, (start, end) in enumerate(sides_of(corners)) if start == end]
    return [corner for number, corner in enumerate(corners) if number not in left_out]


def _goes_left(corners):
    """Whether a row of at least three corners makes a fence that is told left-hand round."""
    told = judged_corners(corners)
    return bool(told) and told.is_left


def _makes_lot(rows):
    """Whether rows of corners, those that fell together told once, make a lot of fences told left-hand round."""
    told = [_told_once(row) for row in rows]
    if not all([len(row) >= FEWEST_CORNERS and _goes_left(row) for row in told]):
        return False
    return bool(judged_fences([Fence(row) for row in told]))


class Film:
    """A film: the rows of corners of its fences at 0 and at 1."""

    def __init__(self, first, last):
        self.first = _first_in(first)
        self.last = _rows_in(last, [(len(row), len(row)) for row in self.first], "last")
        self.sides = tuple([(fence, side) for fence, row in enumerate(self.first) for side in range(len(row))])
        if len(self.sides) > MOST_SIDES:
            raise TooMany("sides", MOST_SIDES)
        _check_ways(self.first, self.last)
        if not _makes_lot(self.first):
            raise NoFilm("first", 0, 0)
        if not _makes_lot(self.last):
            raise NoFilm("last", 0, 0)

    def side(self, at, moment):
        """The pair of the points of the corner of a side and of the next one at a moment."""
        _check_side(self, at)
        fence, side = at
        return sides_of(_corners_at(self, fence, moment_in(moment, "moment")))[side]

    def direction(self, at):
        """The sum of the vectors of a side at 0 and at 1."""
        _check_side(self, at)
        return _direction(self, at)

    def at(self, moment):
        """The lot of the fences at a moment."""
        when = moment_in(moment, "moment")
        rows = [_corners_at(self, fence, when) for fence in range(len(self.first))]
        return Lot([Fence(_told_once(row)) for row in rows])

    def placed(self, at, moment):
        """The side of the lot at this moment that a side is, or None if it has no length then."""
        _check_side(self, at)
        fence, side = at
        have_length = [start != end for start, end in sides_of(_corners_at(self, fence, moment_in(moment, "moment")))]
        if not have_length[side]:
            return None
        return (fence, have_length[:side].count(True))

    def backward(self):
        """The film from its last moment to its first one."""
        return Film(self.last, self.first)

    def part(self, start, stop):
        """The film between two moments."""
        begin = moment_in(start, "start")
        end = moment_in(stop, "stop")
        if not is_below(begin, end):
            raise BadNumber("stop")
        fences = range(len(self.first))
        return Film([_corners_at(self, fence, begin) for fence in fences],
                    [_corners_at(self, fence, end) for fence in fences])

    def __eq__(self, other):
        return isinstance(other, Film) and self.first == other.first and self.last == other.last


def moment_in(value, part):
    """The pair of a number from 0 to 1: BadNumber(part) for what is none."""
    if not is_number(value) or not is_share(pair_of(value)):
        raise BadNumber(part)
    return pair_of(value)


def check_film(film):
    """BadFilm("film") for what is no film."""
    if not isinstance(film, Film):
        raise BadFilm("film")


def both_ends(film):
    """For each side, ascending, the pairs of its points at 0 and at 1."""
    return [ends for row, other in zip(film.first, film.last) for ends in zip(sides_of(row), sides_of(other))]


def is_film_side(film, at):
    """Whether any value is one of the sides of a film, told as a pair (fence, side)."""
    if not is_pair(at) or not is_within(at[0], 0, len(film.first) - 1):
        return False
    return is_within(at[1], 0, len(film.first[at[0]]) - 1)


def _check_side(film, at):
    """BadSides("at") for what is no side of the film."""
    if not is_film_side(film, at):
        raise BadSides("at")


def _corners_at(film, fence, moment):
    """The corners of a fence at a moment, those that fell together, too."""
    return at_moment((film.first[fence], film.last[fence]), moment)


def _direction(film, at):
    """The direction of a side."""
    fence, side = at
    return direction_of((sides_of(film.first[fence])[side], sides_of(film.last[fence])[side]))


def sign_on(film, four, ratio):
    """The sign of four sides of a film for a ratio."""
    check_film(film)
    if not is_row(four) or len(four) != 4 or not all([is_film_side(film, at) for at in four]):
        raise BadSides("four")
    return sign(determinant_of([_direction(film, at) for at in four], ratio_in(ratio))[0])

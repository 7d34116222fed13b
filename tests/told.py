"""Lots and films for the tests."""

from oddsquares.earfilms import ear_film
from oddsquares.errors import NoFilm
from oddsquares.fences import Fence
from oddsquares.films import Film
from oddsquares.lots import Lot
from tests.shapes import DENT, KITE, TRI
from tests.values import fraction, pair

RING = (((0, 0), (12, 1), (5, 11)), ((5, 3), (7, 4), (5, 6)))
LARGE = ((-10, -10), (20, -9), (1, 25))
# A fence whose ear film has germs at its last moment, and pairs of squares that meet.
BENT = ((-6, 0), (0, 0), (-4, -1), (6, 1))


def lot_of(*rows):
    return Lot([Fence(row) for row in rows])


def moved(row, x, y, factor=1):
    """The corners grown from (0, 0) and then moved."""
    return [tuple(pair(fraction(factor) * fraction(part) + fraction(by)) for part, by in zip(point, (x, y))) for point in row]


def still(*rows):
    return Film(rows, rows)


def made(first, last):
    """The film, or None if there is none."""
    try:
        return Film(first, last)
    except NoFilm:
        return None


EAR = ear_film(lot_of(KITE), 0, 2)
BENT_EAR = ear_film(lot_of(BENT), 0, 2)
DART = Film([[(1, -5), (3, 8), (0, 0), (-2, 9), (-2, 9)]], [[(1, -5), (3, 8), (0, 0), (0, 0), (1, -5)]])
GROWN = Film([KITE], [moved(KITE, 1, 2, 3)])
MOVED = Film([KITE, moved(TRI, 9, 1)], [KITE, moved(TRI, 10, (1, 2))])
WITHIN = Film([LARGE, TRI], [LARGE, moved(TRI, 1, (1, 2))])
THROUGH = Film([TRI, [(6, 1), (7, 1), (6, 2)]], [TRI, [(-6, 1), (-5, 1), (-6, 2)]])
# A side opens to the right, the one behind it goes back along it and closes.
SPUR = Film([[(0, 0), (4, 0), (4, 2), (4, 2), (3, 2), (3, 4), (0, 4)]], [[(0, 0), (4, 0), (4, 2), (5, 2), (5, 2), (5, 4), (0, 4)]])
# A corner goes through other sides of its own fence.
PUSHED = Film([[(0, 2), (1, 2), (0, 1), (4, 1), (1, 3), (2, 5)]],
              [[((2, 3), 7), (2, 7), (-4, 1), (4, 1), (1, 3), (10, 21)]])
# The lower corner of the second fence passes the upper corner of the first one, at 1/2 alone.
PASSING = Film([[(0, 0), (2, 0), (1, 3)], [(-3, 3), (-1, 6), (-5, 6)]], [[(0, 0), (2, 0), (1, 3)], [(5, 3), (7, 6), (3, 6)]])


def mirrored(film):
    """The film with (-x, y) in the place of each point (x, y)."""
    return Film(*[[[(pair(-fraction(x)), y) for x, y in row[::-1]] for row in rows] for rows in (film.first, film.last)])


UNSAFE = (THROUGH, SPUR, PUSHED, PASSING)
SAFE = (EAR, EAR.backward(), BENT_EAR, DART, GROWN, GROWN.backward(), MOVED, WITHIN, still(TRI), still(*RING), still(DENT),
        ear_film(lot_of(KITE), 0, 0), ear_film(lot_of(KITE), 0, 3), ear_film(lot_of(DENT), 0, 1))
# Two squares and two rectangles of ratio 2 meet; likewise they part.
MEET = Film([[(6, 0), (2, 4), (4, 6), (0, 4)]], [[(2, 4), (2, 4), (4, 6), ((8, 7), (32, 7))]])
PART = Film([[(0, 3), (3, 1), (6, 4), (0, 5)]], [[(0, (-2, 3)), ((4, 5), (-6, 5)), (6, 4), (0, 5)]])
# With rings of lives: of two fences for the ratios 1 and 2, and of one fence for one of them.
RINGS = Film([[(0, (1, 2)), (0, 0), ((3, 2), 1)], [(3, 7), (2, 8), (1, 8)]],
             [[(0, (1, 2)), (0, 0), ((3, 2), 1)], [(24, -9), (4, 11), (-16, 11)]])
RING_OF_SQUARES = Film([[(0, 5), (1, 1), (8, 2), (1, 6), (4, 3)]],
                       [[((-20, 7), (45, 7)), ((-41, 29), (19, 29)), (8, 2), (1, 6), (4, 3)]])
RING_OF_OBLONGS = Film([[(9, 2), (11, 5), (9, 0), (12, 2), (12, 7)]],
                       [[((3, 2), (-21, 2)), ((39, 4), (15, 8)), (9, 0), (12, 2), (12, 7)]])
# Several knocks at one moment, for ratio 1 and for ratio 2.
AT_ONCE = Film([[(0, 3), (0, 0), (1, 1), (1, 1), (0, 3)]], [[(0, 3), (0, 0), (1, 1), (3, 1), (3, 1)]])
TWO_AT_ONCE = Film([[(2, 9), (4, 7), (6, 13), (2, 11)]], [[(2, 11), ((9, 2), (17, 2)), (6, 13), (2, 11)]])
# Four germs for ratio 2 at one corner.
GERMS = Film([[(5, 3), (17, 19), (17, 19), (9, 9), (15, 19)]], [[(5, 3), (5, 3), (9, 9), (9, 9), (15, 19)]])
# A germ at the first moment, at corner 0.
AT_FIRST = Film([[((3, 2), (1, 2)), (4, (7, 2)), (1, 0), (1, 0), ((3, 2), (1, 2))]],
                [[((3, 2), (1, 2)), (4, (7, 2)), (1, 0), (3, 1), (3, 1)]])
# Two ears are cut at once: germs at two points.
TWO_EARS = Film([BENT_EAR.first[0], moved(BENT_EAR.first[0], 40, 7)], [BENT_EAR.last[0], moved(BENT_EAR.last[0], 40, 7)])
PLAIN = SAFE + (MEET, PART, RINGS, RING_OF_SQUARES, RING_OF_OBLONGS, AT_ONCE, TWO_AT_ONCE, GERMS, AT_FIRST, TWO_EARS)
# Films whose lots at 0 and at 1 are plain: at an inner moment a frame has two posts at corners,
CORNERED = Film([[(2, 0), (1, 2), (0, 2), (0, 1), (0, 1)]], [[(2, 0), (1, 2), (0, 2), (0, 2), (2, 0)]])
# or four sides of the sign 0 bear one: for ratio 1, and for ratio 2.
SLIDING = Film([[(1, 0), (5, 2), (5, 3), (1, 5)]], [[(1, (3, 2)), (5, (7, 2)), (5, 6), (1, 8)]])
SLIDING_2 = Film([[(6, 7), (6, 7), (6, 4), (6, (7, 2)), (7, 5)]], [[(7, 5), (6, 4), (6, 4), (6, (7, 2)), (7, 5)]])
# Here such frames have posts at corners at the begin of their sides alone, for ratio 2, and at the end alone, for ratio 1.
SLIDING_AHEAD = Film([[(10, 1), (8, 4), (9, 0), (9, 2)]], [[(18, -7), ((28, 5), (58, 5)), (9, -2), (9, 2)]])
SLIDING_BEHIND = Film([[(1, 3), (0, 1), (3, 2), (3, 3), (2, 2)]],
                      [[((-5, 6), (29, 6)), ((-9, 2), (-5, 2)), (3, 0), (3, 3), (2, 2)]])

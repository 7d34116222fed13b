import itertools
import random
import unittest

from oddsquares.check_safe import shows_safe
from oddsquares.errors import BadFilm, NoFilm
from oddsquares.fences import Fence
from oddsquares.films import Film
from oddsquares.lots import Lot
from oddsquares.papers import Denial, Paper
from oddsquares.safe import Safe, Touch, judged_film
from tests.oracles import SlowFilm, is_next, pairs_of
from tests.shapes import KITE, TRI, cell, nested, on_side, star
from tests.told import EAR, GROWN, LARGE, PASSING, PUSHED, SAFE, SPUR, THROUGH, UNSAFE, WITHIN, made, moved, still
from tests.values import NO_NUMBERS, NO_POINTS, Raises, fraction, fractions_of, in_lists, pair

NO_FILMS = (None, True, 0, "", [], ([TRI], [TRI]), Fence(TRI), Lot([Fence(TRI)]), Film, object())
NO_PAPERS = (None, True, False, 0, 1, "safe", (), [], {}, object(), Paper("safe"), Safe, Touch,
             Denial("touch", (1, 2), (0, 1), (1, 0), ((1, 1), (1, 1))), Touch(None, None, None, None), Touch(1, 2, 3, 4), Touch((), (), (), ()))


def films_by_chance(many, seed):
    """Films of a fence with sides in a few directions, some of no length at one moment, beside one that is moved."""
    chance = random.Random(seed)
    films = []
    ways = ((1, 0), (0, 1), (-1, 0), (0, -1), (1, 1), (-1, 1), (-1, -1), (1, -1))
    while len(films) < many:
        told = [chance.choice(ways) for side in range(chance.choice((4, 5, 6)))]
        rows = []
        for moment in range(2):
            x, y = chance.randrange(3), chance.randrange(3)
            row = []
            for way in told:
                far = chance.choice((0, 1, 1, 2, 3))
                row.append((x, y))
                x, y = x + far * way[0], y + far * way[1]
            rows.append(row)
        guests = [moved(TRI, chance.randrange(-9, 9), chance.randrange(-9, 9)) for moment in range(2)]
        film = made([rows[0], guests[0]], [rows[1], guests[1]])
        if film is not None:
            films.append(film)
    return films


class JudgedFilmTest(Raises, unittest.TestCase):
    def check_touch(self, film, told):
        """Checks a Touch by the definition."""
        moment = fraction(told.moment)
        self.assertEqual(told.moment, pair(moment))
        self.assertTrue(0 < moment < 1)
        self.assertIn(told.one, film.sides)
        self.assertIn(told.other, film.sides)
        self.assertLess(told.one, told.other)
        slow = SlowFilm(film)
        side, other = slow.side(told.one, moment), slow.side(told.other, moment)
        point = fractions_of(told.point)
        self.assertTrue(on_side(point, side) and on_side(point, other))
        if is_next(film, told.one, told.other):
            corner = other[0] if told.other[1] == told.one[1] + 1 else side[0]
            self.assertNotEqual(point, corner)

    def check(self, film):
        told = judged_film(film)
        touches = SlowFilm(film).touches()
        self.assertEqual(judged_film(film=Film(in_lists(film.first), in_lists(film.last))), told)
        self.assertIs(bool(told), not touches)
        if touches:
            self.assertIs(type(told), Touch)
            self.check_touch(film, told)
        else:
            self.assertEqual((type(told), told.word, told.parts), (Safe, "safe", ()))
        self.assertIs(shows_safe(film, told), True)
        self.assertIs(shows_safe(film, Safe()), not touches)
        for one, other, moment, point in touches:
            self.assertIs(shows_safe(film, Touch(pair(moment), one, other, pairs_of([point])[0])), True)
        return touches

    def test_safe(self):
        for film in SAFE:
            self.assertEqual(self.check(film), [])
        for film in (still(*nested(6)), still(star(40, 9), star(19, 9, (30, 0)))):
            self.assertEqual(judged_film(film), Safe())

    def test_through(self):
        self.assertGreater(len(self.check(THROUGH)), 1)
        self.assertGreater(len(self.check(THROUGH.backward())), 1)

    def test_pushed(self):
        touches = self.check(PUSHED)
        self.assertTrue(touches)
        self.assertTrue(all(one[0] == other[0] for one, other, moment, point in touches))
        self.check(PUSHED.backward())

    def test_a_spur(self):
        touches = self.check(SPUR)
        self.assertIn(((0, 2), (0, 3)), [touch[:2] for touch in touches])
        self.check(SPUR.backward())
        # The same sides with side 2 as the last one and as side 0, so that the corner of both is corner 0 or corner 1.
        for step in (2, 3, 4):
            film = Film([SPUR.first[0][step:] + SPUR.first[0][:step]], [SPUR.last[0][step:] + SPUR.last[0][:step]])
            self.assertTrue(self.check(film))

    def test_straight_corners(self):
        # Neighbours that go on straight touch at their corner alone, however short they are.
        for size in (1, (1, 2), (1, 4), (1, 10 ** 20)):
            self.assertEqual(self.check(still(moved(((0, 0), (1, 0), (2, 0), (1, 3)), 0, 0, size))), [])

    def test_neighbours_first(self):
        # The sides of the spur are 0 and 1: there is no lesser pair. They are as long as each other at 1/2, or not.
        for long, wide in ((1, 1), (2, 1), (1, 2), (3, 1), (1, 3)):
            film = Film([[(4, 2), (4, 2), (4 - long, 2), (4 - long, 4), (0, 4), (0, 0), (4, 0)]],
                        [[(4, 2), (4 + wide, 2), (4 + wide, 2), (4 + wide, 4), (0, 4), (0, 0), (4, 0)]])
            self.assertTrue(self.check(film))
            told = judged_film(film)
            self.assertEqual((told.one, told.other), ((0, 0), (0, 1)))

    def test_one_moment_alone(self):
        touches = self.check(PASSING)
        self.assertEqual({moment for one, other, moment, point in touches}, {fraction((1, 2))})
        told = judged_film(PASSING)
        self.assertEqual((told.moment, told.point), ((1, 2), ((1, 1), (3, 1))))
        self.assertEqual(judged_film(PASSING.part(0, (49, 100))), Safe())
        self.assertEqual(judged_film(PASSING.part((51, 100), 1)), Safe())

    def test_sides_on_one_line(self):
        # Two sides slide along y = 0 toward each other, touch end to end, and part again or go on.
        low = ((0, 0), (-2, 0), (-1, -3))
        for goal, touches in (((1, 10 ** 9), False), (-9, True), ((-2000001, 10 ** 6), None)):
            film = made([low, [(3, 0), (5, 0), (4, 3)]], [low, moved([(0, 0), (2, 0), (1, 3)], goal, 0)])
            self.assertEqual(film is None, touches is None)
            if film is not None:
                self.assertIs(bool(self.check(film)), touches)

    def test_parallel_sides(self):
        # A level side passes through the level of another one, above it and beside it.
        block = cell(0, 0)
        for x, touches in ((0, True), (4, True), (5, False), (-2, True), (-3, False)):
            film = Film([block, moved(cell(0, 0, 2), x, 6)], [block, moved(cell(0, 0, 2), x, -6)])
            self.assertIs(bool(self.check(film)), touches)

    def test_touching_at_0_or_1_only(self):
        # Corners that fell together belong to sides that are no neighbours.
        for film in (EAR, EAR.backward(), GROWN, WITHIN):
            self.assertEqual(self.check(film), [])
        # A corner that reaches a side at 1 makes no lot then.
        self.check_raises(NoFilm, {"word": "last", "fence": 0, "side": 0}, Film, [TRI, moved(TRI, 9, 0)], [TRI, moved(TRI, 4, 0)])

    def test_opening_at_once(self):
        # They touch at all inner moments, however early: there is no first one.
        for moment in ((1, 10 ** 30), (10 ** 30 - 1, 10 ** 30)):
            side, other = SPUR.side((0, 2), moment), SPUR.side((0, 3), moment)
            point = side[0] if fraction(moment) < fraction((1, 2)) else other[1]
            self.assertIs(shows_safe(SPUR, Touch(moment, (0, 2), (0, 3), point)), True)
            self.check_raises(NoFilm, {"word": "last", "fence": 0, "side": 0}, SPUR.part, 0, moment)

    def test_by_chance(self):
        seen = [bool(self.check(film)) for film in films_by_chance(60, 1)]
        self.assertEqual(set(seen), {True, False})

    def test_60_sides(self):
        rows = [star(20, 9, (30 * k, 0), k) for k in range(3)]
        self.assertEqual(judged_film(Film(rows, [moved(row, 0, 0, 3) for row in rows])), Safe())
        told = judged_film(Film(rows, [rows[0], moved(rows[1], 0, 100), moved(rows[2], -90, 0)]))
        self.check_touch(Film(rows, [rows[0], moved(rows[1], 0, 100), moved(rows[2], -90, 0)]), told)

    def test_papers(self):
        self.assertIsInstance(Safe(), Paper)
        self.assertNotIsInstance(Safe(), Denial)
        self.assertIsInstance(judged_film(THROUGH), Denial)
        told = Touch(point=[1], other=2, one=[3], moment=[[4]])
        self.assertEqual((told.word, told.parts, told.moment, told.point), ("touch", (((4,),), (3,), 2, (1,)), ((4,),), (1,)))

    def test_errors(self):
        for bad in NO_FILMS:
            self.check_part(BadFilm, "film", judged_film, bad)


class ShowsSafeTest(Raises, unittest.TestCase):
    def check(self, film, value, right):
        self.assertIs(shows_safe(film, value), right, getattr(value, "parts", value))
        self.assertIs(shows_safe(value=value, film=film), right)

    def test_each_right_touch(self):
        for film in UNSAFE:
            for one, other, moment, point in SlowFilm(film).touches():
                self.check(film, Touch(list(pair(moment)), list(one), other, in_lists(pairs_of([point])[0])), True)
                self.check(film, Touch(pair(moment), other, one, pairs_of([point])[0]), False)
                self.check(film, Touch(pair(moment), one, one, pairs_of([point])[0]), False)

    def test_all_sides_at_a_moment(self):
        moment, point = (1, 2), ((1, 3), (1, 1))
        slow = SlowFilm(THROUGH)
        on = [at for at in THROUGH.sides if on_side(fractions_of(point), slow.side(at, fraction(moment)))]
        for one, other in itertools.product(THROUGH.sides, repeat=2):
            self.check(THROUGH, Touch(moment, one, other, point), one < other and one in on and other in on)

    def test_bent(self):
        moment, one, other, point = (1, 2), (0, 2), (1, 0), ((1, 3), (1, 1))
        self.check(THROUGH, Touch(moment, one, other, point), True)
        for bad in NO_NUMBERS + (0, 1, (0, 1), (1, 1), (1, 3), (-1, 2), (3, 2), (2, 4)):
            self.check(THROUGH, Touch(bad, one, other, point), False)
        for bad in (None, True, 0, "02", (), (0,), (0, 2, 0), (0, 1), (0, 3), (2, 0), (-1, 2), (0, -1), (False, 2), (0, 2.0), (0, True),
                    one[::-1]):
            self.check(THROUGH, Touch(moment, bad, other, point), False)
        for bad in (None, True, 0, "10", (), (1,), (1, 0, 0), (1, 3), (2, 0), (True, 0), (1, False), (1.0, 0), (0, 1), (1, -3)):
            self.check(THROUGH, Touch(moment, one, bad, point), False)
        for bad in NO_POINTS + (((1, 3), 1), ((1, 3), (2, 1)), ((2, 3), (1, 1)), ((1, 3), (True, 1)), ((1, 3), (1, True)),
                                point[::-1], ((2, 6), (1, 1)), (1, 1), ((0, 1), (0, 1))):
            self.check(THROUGH, Touch(moment, one, other, bad), False)

    def test_integers_for_pairs(self):
        film = PASSING
        self.check(film, Touch((1, 2), (0, 1), (1, 0), ((1, 1), (3, 1))), True)
        for point in ((1, 3), ((1, 1), 3), (1, (3, 1))):
            self.check(film, Touch((1, 2), (0, 1), (1, 0), point), False)

    def test_neighbours_at_their_corner(self):
        # At 1/4 the corner of the spur is (17/4, 2).
        for x, right in (((17, 4), False), ((4, 1), True), ((33, 8), True), ((31, 8), False), ((18, 4), False), ((9, 2), False)):
            self.check(SPUR, Touch((1, 4), (0, 2), (0, 3), (x, (2, 1))), right)
        # At 1/2 both sides are as long: their other ends are one point.
        film = SPUR
        side, other = film.side((0, 2), (1, 2)), film.side((0, 3), (1, 2))
        self.assertEqual(side[0], other[1])
        self.check(film, Touch((1, 2), (0, 2), (0, 3), side[0]), True)
        self.check(film, Touch((1, 2), (0, 2), (0, 3), side[1]), False)
        for one, other in (((0, 0), (0, 1)), ((0, 0), (0, 2)), ((0, 1), (0, 2))):
            for corner in range(3):
                point = THROUGH.side((0, corner), (1, 2))[0]
                self.check(THROUGH, Touch((1, 2), one, other, point), False)
        self.check(still(KITE), Touch((1, 2), (0, 0), (0, 3), ((0, 1), (0, 1))), False)

    def test_safe(self):
        for film in SAFE:
            self.check(film, Safe(), True)
            self.check(film, judged_film(THROUGH), False)
        for film in UNSAFE:
            self.check(film, Safe(), False)

        class Other(Safe):
            pass

        class Told(Touch):
            pass

        self.check(EAR, Other(), False)
        self.check(PASSING, Told(*judged_film(PASSING).parts), False)

    def test_no_papers(self):
        for value in NO_PAPERS:
            self.check(EAR, value, False)
            self.check(THROUGH, value, False)

    def test_errors(self):
        for value in (None, Safe(), judged_film(THROUGH)):
            for bad in NO_FILMS:
                self.check_part(BadFilm, "film", shows_safe, bad, value)
        self.check(Film([LARGE, TRI], [LARGE, TRI]), Safe(), True)


if __name__ == "__main__":
    unittest.main()

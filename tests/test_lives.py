import random
import unittest
from fractions import Fraction

from oddsquares.check_lives import shows_lives
from oddsquares.errors import BadFilm, BadNumber, BadPaper, BadRatio, Misfit, TooMany
from oddsquares.fences import Fence
from oddsquares.films import Film, sign_on
from oddsquares.frames import is_frame, places, readings
from oddsquares.judged import judged
from oddsquares.lives import Jammed, Living, frames_at, judged_lives, posts_at
from oddsquares.lots import Lot
from oddsquares.papers import Denial, Paper
from tests.oracles import SlowFilm, pairs_of
from tests.shapes import KITE, TRI, cell, cross, dot, star
from tests.told import (AT_FIRST, AT_ONCE, BENT_EAR, CORNERED, DART, EAR, GERMS, GROWN, LARGE, MEET, MOVED, PART, PLAIN, RING,
                        RINGS, SLIDING, SLIDING_2, SLIDING_AHEAD, SLIDING_BEHIND, TWO_AT_ONCE, UNSAFE, WITHIN, mirrored, moved, still)
from tests.values import NO_NUMBERS, NO_RATIOS, Raises, fraction, fractions_of, in_lists, pair

NO_FILMS = (None, True, 0, "", [], ([TRI], [TRI]), Fence(TRI), Lot([Fence(TRI)]), Film, object())
RIGHT = ((0, 0), (4, 0), (0, 3))
BOX = cell(0, 0)
ENDS = ((0, 1), (1, 1))


def plain_films(ratios=(1, 2)):
    """All films and ratios that are plain."""
    return [(film, ratio) for film in PLAIN for ratio in ratios if film != TWO_AT_ONCE or ratio != 1]


def steps_of(ratio):
    return (0, 1, 2, 3) if ratio == 1 else (0, 2)


def moments_between(living):
    """0, 1, and a moment between each two that have a knock."""
    told = sorted({fraction(knock[0]) for knock in living.knocks} | {Fraction(0), Fraction(1)})
    return [Fraction(0), Fraction(1)] + [(one + other) / 2 for one, other in zip(told, told[1:])]


class JudgedLivesTest(Raises, unittest.TestCase):
    def check_slowly(self, film, ratio):
        """Checks the lives beside all fours and their vertices."""
        told = judged_lives(film, ratio)
        slow = SlowFilm(film, ratio).lives()
        if isinstance(slow, tuple):
            self.assertIs(type(told), Jammed)
            self.assertIs(shows_lives(film, ratio, Jammed(pair(slow[0]), pairs_of(slow[1]))), True)
        else:
            lives = []
            for four in slow:
                read = [four[step:] + four[:step] for step in steps_of(ratio)]
                if min((tuple(at[0] for at in row), row) for row in read)[1] == four:
                    birth, death, born, dead, sign = slow[four]
                    word = tuple(at[0] for at in four)
                    lives.append((word, four, pair(birth), pair(death), pairs_of(born), pairs_of(dead), sign))
            self.assertEqual(told.lives, tuple(sorted(lives)))
        return told

    def test_slowly(self):
        for film, ratio in ((still(TRI), 2), (GROWN, 1), (MEET, 1), (MEET, (1, 2)), (PART, 1), (EAR, 1), (TWO_AT_ONCE, 2),
                            (SLIDING, 1), (TWO_AT_ONCE, 1), (still(RIGHT), 1), (GROWN.backward(), 2)):
            with self.subTest(film=film.first, ratio=ratio):
                self.check_slowly(film, ratio)

    def test_slowly_with_germs(self):
        self.check_slowly(BENT_EAR, 1)
        self.check_slowly(GERMS, 2)

    def test_slowly_with_jams(self):
        self.assertEqual(self.check_slowly(CORNERED, 1).moment, (1, 3))
        self.assertEqual(self.check_slowly(SLIDING_2, 2).moment, (7, 12))

    def check_life(self, film, ratio, life):
        word, four, birth, death, born, dead, sign = life
        read = [four[step:] + four[:step] for step in steps_of(ratio)]
        self.assertEqual((word, four), min((tuple(at[0] for at in row), row) for row in read))
        self.assertEqual(sign, sign_on(film, four, ratio))
        self.assertIn(sign, (1, -1))
        self.assertTrue(0 <= fraction(birth) < fraction(death) <= 1)
        for moment, posts in ((birth, born), (death, dead)):
            self.assertEqual(posts_at(life, moment), posts)
            self.assertEqual([type(part) for post in posts for part in post], [tuple] * 8)
            if len(set(posts)) == 1:
                self.assertIn(moment, ENDS)
                continue
            self.assertIs(is_frame(posts, ratio), True)
            told = places(film.at(moment), posts)
            for at, sides in zip(four, told):
                self.assertIn(film.placed(at, moment), sides)
            corners = [sides for sides in told if len(sides) > 1]
            self.assertEqual(len(corners), 0 if moment in ENDS else 1)

    def check_frames(self, film, ratio, living):
        """At a moment without a knock the lives are the rows of the lot."""
        for moment in moments_between(living):
            when = pair(moment)
            rows = []
            for life in living.lives:
                if fraction(life[2]) <= moment <= fraction(life[3]):
                    posts = posts_at(life, when)
                    if posts[0] != posts[1]:
                        kind = 0 if ratio == 1 and len(set(life[0])) == 1 else life[6]
                        rows.append((life[0], tuple(film.placed(at, when) for at in life[1]), posts, kind))
            self.assertEqual(tuple(sorted(rows)), judged(film.at(when), ratio).rows)
            self.assertEqual(sorted(frames_at(living, when)), sorted(row[2] for row in rows))

    def check_knocks(self, film, ratio, living):
        ends = {}
        for number, life in enumerate(living.lives):
            for moment, posts, what in ((life[2], life[4], "birth"), (life[3], life[5], "death")):
                if moment not in ENDS:
                    ends.setdefault((moment, frozenset(posts)), []).append((number, what, posts))
        knocks = []
        for (moment, _), ((one, what, posts), (other, other_what, other_posts)) in ends.items():
            told = "hand" if what != other_what else "meet" if what == "death" else "part"
            knocks.append((moment, posts, one, other, told))
            self.assertIn(other_posts, readings(posts, ratio))
            self.check_signs(living.lives[one], living.lives[other], readings(posts, ratio).index(other_posts), ratio, told)
            self.assertEqual(judged(film.at(moment), ratio).word, "barred")
        knocks.sort(key=lambda knock: (fraction(knock[0]), knock[2], knock[3]))
        self.assertEqual(living.knocks, tuple(knocks))

    def check_signs(self, life, other, place, ratio, what):
        """Read from the same post the fours differ in one side, the signs as the knock tells."""
        step = steps_of(ratio)[place]
        four = other[1][-step:] + other[1][:-step] if step else other[1]
        self.assertEqual(sum(one != two for one, two in zip(life[1], four)), 1)
        turned = -1 if step % 2 else 1
        self.assertEqual(life[6] * other[6] * turned, 1 if what == "hand" else -1)

    def test_plain_films(self):
        for film, ratio in plain_films() + plain_films([(1, 2)])[::3]:
            with self.subTest(film=film.first, ratio=ratio):
                living = judged_lives(film, ratio)
                self.assertEqual((type(living), living.word), (Living, "living"))
                self.assertEqual([life[:2] for life in living.lives], sorted({life[:2] for life in living.lives}))
                for life in living.lives:
                    self.check_life(film, ratio, life)
                self.check_knocks(film, ratio, living)
                self.check_frames(film, ratio, living)
                self.assertEqual(judged_lives(ratio=ratio, film=Film(in_lists(film.first), in_lists(film.last))), living)

    def test_what_knocks_there_are(self):
        for film, ratio, many in ((MEET, 1, "hhm"), (MEET, 2, "hhmm"), (PART, 1, "hph"), (RINGS, 1, "phm"), (WITHIN, 1, "hh"),
                                  (EAR, 1, "hhhh"), (still(TRI), 1, ""), (GROWN, 2, ""), (MOVED, 1, "")):
            self.assertEqual("".join(knock[4][0] for knock in judged_lives(film, ratio).knocks), many)

    def test_several_knocks_at_one_moment(self):
        for film, ratio in ((AT_ONCE, 1), (TWO_AT_ONCE, 2)):
            knocks = judged_lives(film, ratio).knocks
            self.assertLess(len({knock[0] for knock in knocks}), len(knocks))

    def test_still_films(self):
        for row in (TRI, KITE, RING[0]):
            for ratio in (1, 2):
                living = judged_lives(still(row), ratio)
                rows = judged(Lot([Fence(row)]), ratio).rows
                self.assertEqual([(life[0], life[1], life[4]) for life in living.lives], [told[:3] for told in rows])
                self.assertTrue(all(life[4] == life[5] and life[2:4] == ENDS for life in living.lives))
                self.assertEqual(living.knocks, ())

    def test_grown_from_far_within(self):
        # All frames grow with the lot: they stand at 0 and at 1.
        living = judged_lives(Film([moved(KITE, 0, 0, (1, 10 ** 20))], [KITE]), 1)
        self.assertEqual([life[5] for life in living.lives], [row[2] for row in judged(Lot([Fence(KITE)]), 1).rows])
        self.assertTrue(all(life[2:4] == ENDS for life in living.lives))

    def test_backward(self):
        for film, ratio in plain_films():
            told = {}
            for word, four, birth, death, born, dead, sign in judged_lives(film, ratio).lives:
                told[four] = (word, four, pair(1 - fraction(death)), pair(1 - fraction(birth)), dead, born, sign)
            right = tuple(told[four] for four in sorted(told, key=lambda four: (told[four][0], four)))
            self.assertEqual(judged_lives(film.backward(), ratio).lives, right)

    def test_parts(self):
        start, stop = Fraction(1, 17), Fraction(13, 14)
        for film, ratio in ((EAR, 1), (BENT_EAR, 2), (PART, 1), (GERMS, 2)):
            living = judged_lives(film, ratio)
            part = judged_lives(film.part(pair(start), pair(stop)), ratio)
            rest = []
            for life in living.lives:
                birth, death = max(start, fraction(life[2])), min(stop, fraction(life[3]))
                if birth < death:
                    moments = [pair((moment - start) / (stop - start)) for moment in (birth, death)]
                    rest.append((life[0], life[1], *moments, posts_at(life, pair(birth)), posts_at(life, pair(death)), life[6]))
            self.assertEqual(part.lives, tuple(rest))

    def told_germs(self, film, ratio):
        """For each moment and point how many germs there are by the directions of three sides, as the document says."""
        slow = SlowFilm(film)
        germs = {}
        for fence, k in slow.names:
            many = len(film.first[fence])
            p, s, q = [slow.sides[(fence, at % many)][2] for at in (k - 1, k, k + 1)]
            for moment, length in zip((0, 1), slow.sides[(fence, k)][3:]):
                if length == 0 and cross(p, s) * cross(s, q) < 0 and dot(p, s) < 0 and dot(s, q) < 0:
                    w = max(abs(cross(p, s) / dot(p, s)), abs(cross(s, q) / dot(s, q)))
                    many_germs = 2 * sum(w < e for e in {fraction(ratio), 1 / fraction(ratio)})
                    if many_germs:
                        point = pairs_of([slow.side((fence, k), moment)[0]])[0]
                        germs[(moment, point)] = germs.get((moment, point), 0) + many_germs
        return germs

    def test_germs(self):
        seen = set()
        for film, ratio in plain_films():
            germs = {}
            for life in judged_lives(film, ratio).lives:
                for moment, posts in ((life[2], life[4]), (life[3], life[5])):
                    if posts[0] == posts[1]:
                        self.assertEqual(len(set(posts)), 1)
                        self.assertIn(moment, ENDS)
                        germs[(moment[0], posts[0])] = germs.get((moment[0], posts[0]), 0) + 1
            self.assertEqual(germs, self.told_germs(film, ratio))
            seen.update((moment, many) for (moment, point), many in germs.items())
        self.assertLessEqual({(0, 2), (1, 2), (1, 4)}, seen)
        self.assertEqual(self.told_germs(AT_FIRST, 1), {(0, ((3, 2), (1, 2))): 2})

    def test_other_ratios_near_and_far(self):
        for ratio in ((10 ** 6 + 1, 10 ** 6), (1, 10 ** 9), 10 ** 9, (3, 2)):
            living = judged_lives(EAR, ratio)
            self.assertIs(type(living), Living)
            self.check_frames(EAR, ratio, living)


class JammedTest(Raises, unittest.TestCase):
    def check(self, film, ratio):
        told = judged_lives(film, ratio)
        self.assertEqual((type(told), told.word, bool(told)), (Jammed, "jammed", False))
        self.assertIs(is_frame(told.posts, ratio), True)
        sides = places(film.at(told.moment), told.posts)
        self.assertTrue(all(sides))
        corners = sum(len(part) > 1 for part in sides)
        if told.moment in ENDS:
            self.assertGreater(corners, 0)
        elif corners < 2:
            fours = [(a, b, c, d) for a in sides[0] for b in sides[1] for c in sides[2] for d in sides[3]]
            self.assertIn(0, [sign_on(film, four, ratio) for four in fours])
        self.assertIs(shows_lives(film, ratio, told), True)
        self.assertEqual(judged_lives(Film(in_lists(film.first), in_lists(film.last)), list(pair(fraction(ratio)))), told)
        return told.moment, corners

    def test_bars_at_the_ends(self):
        self.assertIn(self.check(still(RIGHT), 1)[0], ENDS)
        self.assertIn(self.check(still(BOX), (1, 2))[0], ENDS)
        self.assertEqual(self.check(TWO_AT_ONCE, 1)[0], (0, 1))
        # The side of the first fence comes to be as long as it is far from the other one only at 1.
        film = Film([((-7, 0), (9, 0), (2, 3), (0, 3))], [((-7, 0), (10, 0), (3, 3), (0, 3))])
        self.assertEqual(self.check(film, 1)[0], (1, 1))
        self.assertEqual(self.check(film.backward(), 1)[0], (0, 1))

    def test_two_posts_at_corners(self):
        moment, corners = self.check(CORNERED, 1)
        self.assertEqual((moment, corners > 1), ((1, 3), True))
        self.assertEqual(self.check(CORNERED, 2)[0], (1, 5))
        self.assertEqual(self.check(CORNERED.backward(), 1)[0], (2, 3))

    def test_the_sign_0(self):
        self.assertEqual(self.check(SLIDING, 1)[0], (2, 3))
        self.assertEqual(self.check(SLIDING_2, 2)[0], (7, 12))
        self.assertEqual(self.check(SLIDING_2, (1, 2))[0], (7, 12))
        # Mirrored, a corner is at the other end of its side.
        self.assertEqual(self.check(mirrored(SLIDING), 1)[0], (2, 3))
        self.assertEqual(self.check(mirrored(SLIDING_2), 2)[0], (7, 12))
        self.assertEqual(self.check(SLIDING_AHEAD, 2)[0], (3, 4))
        self.assertEqual(self.check(SLIDING_BEHIND, 1)[0], (1, 6))
        self.assertIs(bool(judged_lives(SLIDING, (3, 2))), True)
        self.assertIs(bool(judged_lives(SLIDING_2, 1)), True)

    def test_sides_that_pass_one_another(self):
        # The lower side of the second fence, level and 3 wide, passes 2 above the upper side of the first one.
        low = ((-3, -50), (4, -50), (2, 0), (-1, 0))
        high = ((0, 2), (3, 2), (4, 40), (-2, 39))
        for x in (-500, -60):
            film = Film([low, moved(high, x, 0)], [low, moved(high, -x, 0)])
            self.assertNotIn(self.check(film, 1)[0], ENDS)

    def test_papers(self):
        told = judged_lives(CORNERED, 1)
        self.assertIsInstance(told, Denial)
        self.assertEqual(Jammed(posts=in_lists(told.posts), moment=[1, 3]), told)
        living = Living(knocks=[[1]], lives=[2])
        self.assertEqual((living.parts, living.lives, living.knocks, bool(living)), (((2,), ((1,),)), (2,), ((1,),), True))
        self.assertNotIsInstance(living, Denial)
        self.assertIsInstance(living, Paper)


class BoundsTest(Raises, unittest.TestCase):
    def test_14_sides_and_15(self):
        rows = [star(8, 9), star(6, 9, (30, 3), 2)]
        living = judged_lives(Film(rows, [rows[0], moved(rows[1], 1, (1, 7))]), 1)
        self.assertIs(bool(living), True)
        self.assertEqual(len(frames_at(living, 0)), len(judged(Lot([Fence(row) for row in rows]), 1).rows))
        for rows in ([star(15, 9)], [star(12, 9), TRI_FAR]):
            self.check_raises(TooMany, {"what": "sides", "most": 14}, judged_lives, still(*rows), 1)

    def test_errors(self):
        large = still(star(30, 9))
        for bad in NO_FILMS:
            self.check_part(BadFilm, "film", judged_lives, bad, None)
        for bad in NO_RATIOS:
            for film in (EAR, large, UNSAFE[0]):
                self.check_part(BadRatio, "ratio", judged_lives, film, bad)
        for film in UNSAFE:
            self.check_part(Misfit, "film", judged_lives, film, 1)
        rows = [star(20, 9), TRI_FAR]
        self.check_part(Misfit, "film", judged_lives, Film(rows, [rows[0], moved(TRI_FAR, -200, 0)]), 1)


TRI_FAR = moved(TRI, 100, 0)


class PostsAtTest(Raises, unittest.TestCase):
    def test_posts(self):
        chance = random.Random(4)
        for film, ratio in ((EAR, 1), (BENT_EAR, 2), (WITHIN, 1)):
            slow = SlowFilm(film, ratio)
            for life in judged_lives(film, ratio).lives:
                birth, death = fraction(life[2]), fraction(life[3])
                self.assertEqual(posts_at(life, life[2]), life[4])
                self.assertEqual(posts_at(moment=life[3], life=in_lists(life)), life[5])
                moment = birth + (death - birth) * Fraction(chance.randrange(1, 99), 99)
                posts = posts_at(life, pair(moment))
                self.assertIs(is_frame(posts, ratio), True)
                for at, post in zip(life[1], posts):
                    start, end = slow.side(at, moment)
                    way, told = (end[0] - start[0], end[1] - start[1]), fractions_of(post)
                    self.assertEqual(cross(way, (told[0] - start[0], told[1] - start[1])), 0)

    def test_integers(self):
        life = judged_lives(still(TRI), 1).lives[0]
        self.assertEqual(posts_at(life, 0), posts_at(life, (0, 1)))
        self.assertEqual(posts_at(life, 1), posts_at(life, [1, 1]))

    def test_errors(self):
        for life in judged_lives(EAR, 1).lives:
            little = Fraction(1, 10 ** 9)
            for bad in NO_NUMBERS + (-1, 2, pair(fraction(life[2]) - little), pair(fraction(life[3]) + little)):
                self.check_part(BadNumber, "moment", posts_at, life, bad)


class FramesAtTest(Raises, unittest.TestCase):
    def test_a_frame_that_two_lives_have(self):
        for film, ratio in ((EAR, 1), (EAR, 2), (MEET, 1), (PART, 2), (RINGS, 1), (AT_ONCE, 1)):
            living = judged_lives(film, ratio)
            for knock in living.knocks:
                frames = frames_at(living, knock[0])
                self.assertEqual(len({frozenset(posts) for posts in frames}), len(frames))
                self.assertIn(knock[1], frames)
                told = [life for life in living.lives if fraction(life[2]) <= fraction(knock[0]) <= fraction(life[3])]
                first = []
                for life in told:
                    posts = posts_at(life, knock[0])
                    if frozenset(posts) not in map(frozenset, first):
                        first.append(posts)
                self.assertEqual(frames, tuple(first))

    def test_points(self):
        for film, ratio, many in ((BENT_EAR, 1, 1), (GERMS, 2, None), (DART, 1, None), (AT_FIRST, 1, None)):
            living = judged_lives(film, ratio)
            for moment in (0, 1):
                frames = frames_at(living, moment)
                self.assertTrue(all(len(set(posts)) == 4 for posts in frames))
                self.assertEqual(len(frames), len(judged(film.at(moment), ratio).rows))
            if many is not None:
                self.assertEqual(len(frames_at(moment=1, living=living)), many)

    def test_made_anew(self):
        living = judged_lives(EAR, 1)
        anew = Living(in_lists(living.lives), in_lists(living.knocks))
        self.assertEqual(frames_at(anew, [1, 10]), frames_at(living, (1, 10)))
        self.assertEqual(frames_at(Living((), ()), 0), ())

    def test_errors(self):
        living = judged_lives(EAR, 1)

        class Other(Living):
            pass

        for bad in (None, True, 0, living.parts, (), Jammed((1, 2), ()), Paper("living", *living.parts), Living, EAR, object(),
                    Other(*living.parts)):
            self.check_part(BadPaper, "living", frames_at, bad, None)
        for bad in NO_NUMBERS + (-1, 2, (-1, 9), (10, 9)):
            self.check_part(BadNumber, "moment", frames_at, living, bad)
        self.assertEqual(len(frames_at(judged_lives(Film([LARGE, TRI], [LARGE, TRI]), 1), (1, 3))), 16)


if __name__ == "__main__":
    unittest.main()

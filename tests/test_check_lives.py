import itertools
import unittest

from oddsquares.check_lives import shows_lives
from oddsquares.errors import BadFilm, BadRatio, Misfit, TooMany
from oddsquares.fences import Fence
from oddsquares.films import Film
from oddsquares.frames import readings
from oddsquares.judged import Barred
from oddsquares.lives import Jammed, Living, judged_lives
from oddsquares.lots import Lot
from oddsquares.papers import Denial, Paper
from tests.bent import bent_posts, bent_values
from tests.shapes import TRI, cell, star
from tests.told import BENT_EAR, CORNERED, EAR, MEET, SLIDING, SLIDING_2, UNSAFE, WITHIN, still
from tests.values import NO_NUMBERS, NO_RATIOS, Raises, in_lists

RIGHT = still(((0, 0), (4, 0), (0, 3)))
SQUARE = (((0, 1), (0, 1)), ((12, 7), (0, 1)), ((12, 7), (12, 7)), ((0, 1), (12, 7)))
BOX = still(cell(0, 0))
NO_FILMS = (None, True, 0, "", [], ([TRI], [TRI]), Fence(TRI), Lot([Fence(TRI)]), Film, object())
NO_PAPERS = (None, True, False, 0, 1, "living", (), [], {}, object(), Living, Jammed, Paper("living", (), ()),
             Denial("jammed", (0, 1), SQUARE), Barred(SQUARE, 0), Living(None, None), Living((), ()), Living([None], [None]),
             Jammed(None, None), Jammed((), ()), Jammed((1, 2), None))


def told(*points):
    return tuple(((x, 1), (y, 1)) for x, y in points)


class Shows(Raises):
    def check(self, film, ratio, value, right):
        self.assertIs(shows_lives(film, ratio, value), right, getattr(value, "parts", value))
        self.assertIs(shows_lives(value=value, ratio=ratio, film=film), right)


class LivingTest(Shows, unittest.TestCase):
    def test_the_living(self):
        for film, ratio in ((EAR, 1), (MEET, 2), (still(TRI), 1)):
            living = judged_lives(film, ratio)
            lives, knocks = living.parts
            self.check(film, ratio, living, True)
            self.check(film, ratio, Living(in_lists(lives), in_lists(knocks)), True)
            for number in range(len(lives)):
                self.check(film, ratio, Living(lives[:number] + lives[number + 1:], knocks), False)
                self.check(film, ratio, Living(lives[:number + 1] + lives[number:], knocks), False)
            for number in range(len(knocks)):
                self.check(film, ratio, Living(lives, knocks[:number] + knocks[number + 1:]), False)
                self.check(film, ratio, Living(lives, knocks[:number + 1] + knocks[number:]), False)
            self.check(film, ratio, Living(lives[::-1], knocks), False)
            self.check(film, ratio, Living(lives[1:2] + lives[:1] + lives[2:], knocks), False)
            if len(knocks) > 1:
                self.check(film, ratio, Living(lives, knocks[::-1]), False)
            self.check(film, ratio, Paper("living", lives, knocks), False)

    def test_bent(self):
        film = still(TRI)
        lives, knocks = judged_lives(film, 1).parts
        for bent in bent_values(lives[1])[::2]:
            self.assertIs(shows_lives(film, 1, Living((lives[0], bent) + lives[2:], knocks)), False, bent)
        lives, knocks = judged_lives(MEET, 1).parts
        for bent in bent_values(lives[1])[::9]:
            self.assertIs(shows_lives(MEET, 1, Living((lives[0], bent) + lives[2:], knocks)), False, bent)
        for bent in bent_values(knocks[0])[::2]:
            self.assertIs(shows_lives(MEET, 1, Living(lives, (bent,) + knocks[1:])), False, bent)
        for what in ("hand", "meet", "part", "Hand"):
            self.check(MEET, 1, Living(lives, (knocks[0][:4] + (what,),) + knocks[1:]), what == knocks[0][4])

    def test_other_readings(self):
        # A life, or the frame of a knock, told at another reading.
        lives, knocks = judged_lives(EAR, 1).parts
        word, four, birth, death, born, dead, sign = lives[0]
        turned = (word, four[1:] + four[:1], birth, death, born[1:] + born[:1], dead[1:] + dead[:1], -sign)
        self.check(EAR, 1, Living((turned,) + lives[1:], knocks), False)
        for posts in readings(knocks[0][1], 1):
            self.check(EAR, 1, Living(lives, ((knocks[0][0], posts) + knocks[0][2:],) + knocks[1:]), posts == knocks[0][1])

    def test_integers_for_pairs(self):
        lives, knocks = judged_lives(still(TRI), 1).parts
        for place, moment in ((2, 0), (3, 1)):
            bent = lives[0][:place] + (moment,) + lives[0][place + 1:]
            self.check(still(TRI), 1, Living((bent,) + lives[1:], knocks), False)

    def test_of_another_film_or_ratio(self):
        living = judged_lives(EAR, 1)
        for film, ratio in ((EAR, 2), (EAR, (1, 2)), (EAR.backward(), 1), (MEET, 1), (still(TRI), 1), (CORNERED, 1)):
            self.check(film, ratio, living, False)
        self.check(EAR, (1, 1), living, True)
        self.check(EAR, [1, 1], living, True)

    def test_a_jammed_of_a_plain_film(self):
        for film in (EAR, still(TRI)):
            for moment in ((0, 1), (1, 2), (1, 1)):
                self.check(film, 1, Jammed(moment, SQUARE), False)
                self.check(film, 1, Jammed(moment, judged_lives(film, 1).lives[0][4]), False)

    def test_no_papers(self):
        for film in (EAR, CORNERED, RIGHT):
            for value in NO_PAPERS:
                self.check(film, 1, value, False)

        class Other(Living):
            pass

        class Told(Jammed):
            pass

        self.check(EAR, 1, Other(*judged_lives(EAR, 1).parts), False)
        self.check(CORNERED, 1, Told(*judged_lives(CORNERED, 1).parts), False)

    def test_errors(self):
        for value in (None, judged_lives(EAR, 1), judged_lives(CORNERED, 1)):
            for bad in NO_FILMS:
                self.check_part(BadFilm, "film", shows_lives, bad, None, value)
            for bad in NO_RATIOS:
                self.check_part(BadRatio, "ratio", shows_lives, UNSAFE[0], bad, value)
            for film in UNSAFE:
                self.check_part(Misfit, "film", shows_lives, film, 1, value)
            self.check_raises(TooMany, {"what": "sides", "most": 14}, shows_lives, still(star(15, 9)), 1, value)


class JammedTest(Shows, unittest.TestCase):
    def test_bars(self):
        for moment, right in (((0, 1), True), ((1, 2), False), ((1, 1), True), ((1, 10 ** 30), False)):
            for posts in readings(SQUARE, 1):
                self.check(RIGHT, 1, Jammed(moment, posts), right)
                self.check(RIGHT, 1, Jammed(list(moment), in_lists(posts)), right)
        self.check(RIGHT, 2, Jammed((0, 1), SQUARE), False)
        self.check(RIGHT, 1, judged_lives(EAR, 1), False)

    def test_bent(self):
        self.check(RIGHT, 1, Jammed((0, 1), SQUARE), True)
        for bad in NO_NUMBERS + (0, 1, (-1, 1), (2, 1), (3, 2), (0, 2), (0, True), (False, 1)):
            self.check(RIGHT, 1, Jammed(bad, SQUARE), False)
        for posts in bent_posts(SQUARE):
            if posts != SQUARE[1:] + SQUARE[:1]:
                self.check(RIGHT, 1, Jammed((0, 1), posts), False)

    def test_at_inner_moments(self):
        whole, turned = told((0, 0), (4, 0), (4, 4), (0, 4)), told((1, 0), (4, 1), (3, 4), (0, 3))
        for moment in ((0, 1), (1, 1)):
            self.check(BOX, 1, Jammed(moment, whole), True)
            # No post is at a corner: no bar.
            self.check(BOX, 1, Jammed(moment, turned), False)
        for moment in ((1, 2), (1, 3), (10 ** 30 - 1, 10 ** 30)):
            self.check(BOX, 1, Jammed(moment, whole), True)
            self.check(BOX, 1, Jammed(moment, turned), True)
            self.check(BOX, 1, Jammed(moment, told((1, 0), (3, 0), (3, 2), (1, 2))), False)
            self.check(BOX, 1, Jammed(moment, told((0, 0), (4, 0), (4, 4), (0, 5))), False)
            self.check(BOX, 1, Jammed(moment, turned[::-1]), False)
            self.check(BOX, 2, Jammed(moment, turned), False)

    def test_one_post_at_a_corner(self):
        # The frame with one post at a corner lies on four sides of the sign 0 by just one of the corner's two sides.
        jam = judged_lives(SLIDING, 1)
        self.check(SLIDING, 1, jam, True)
        for posts in readings(jam.posts, 1):
            self.check(SLIDING, 1, Jammed(jam.moment, posts), True)
        for moment in ((0, 1), (1, 1), (1, 2), (3, 4)):
            self.check(SLIDING, 1, Jammed(moment, jam.posts), False)
        # A frame at a knock of a plain film has one post at a corner, and is no jam.
        film, living = SLIDING_2, judged_lives(SLIDING_2, 1)
        for knock in living.knocks:
            self.check(film, 1, Jammed(knock[0], knock[1]), False)
        # Nor is it one where the film has jams elsewhere.
        jam = judged_lives(film, 2)
        self.check(film, 2, jam, True)
        self.check(film, 1, jam, False)
        self.check(film, (1, 2), jam, False)
        self.check(film, (1, 2), Jammed(jam.moment, jam.posts[1:] + jam.posts[:1]), True)

    def test_each_right_jam(self):
        jam = judged_lives(CORNERED, 1)
        self.check(CORNERED, 1, jam, True)
        for moment, posts in itertools.product(((0, 1), (1, 3), (1, 2), (1, 1)), readings(jam.posts, 1)):
            self.check(CORNERED, 1, Jammed(moment, posts), moment == jam.moment)
        self.check(CORNERED.backward(), 1, Jammed((2, 3), jam.posts), True)

    def test_of_another_lot(self):
        self.check(WITHIN, 1, judged_lives(CORNERED, 1), False)
        self.check(CORNERED, 1, Jammed((0, 1), SQUARE), False)


if __name__ == "__main__":
    unittest.main()

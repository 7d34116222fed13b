import unittest

from oddsquares.errors import BadPaper
from oddsquares.lives import Jammed, Living, frames_at, judged_lives
from oddsquares.papers import Paper
from oddsquares.staircases import staircase
from tests.test_lives import moments_between, plain_films
from tests.told import AT_ONCE, BENT_EAR, EAR, MEET, PART, RINGS, TWO_AT_ONCE, still
from tests.shapes import KITE
from tests.values import Raises, fraction, in_lists, pair


class StaircaseTest(Raises, unittest.TestCase):
    def check(self, living):
        told = staircase(living)
        moments = sorted({fraction(knock[0]) for knock in living.knocks if knock[4] != "hand"})
        self.assertEqual([moment for moment, many in told], [(0, 1)] + [pair(moment) for moment in moments])
        for moment, many in told:
            lives = [life for life in living.lives if fraction(life[2]) <= fraction(moment) < fraction(life[3])]
            self.assertEqual((type(many), many), (int, len(lives)))
        self.assertEqual(staircase(living=Living(in_lists(living.lives), in_lists(living.knocks))), told)
        return told

    def test_staircases(self):
        for film, ratio in plain_films():
            self.check(judged_lives(film, ratio))

    def test_beside_frames(self):
        # Behind each step, up to the next one, as many frames stand: those that end as germs are among them.
        for film, ratio in ((BENT_EAR, 1), (MEET, 2), (PART, 1), (RINGS, 1)):
            living = judged_lives(film, ratio)
            steps = self.check(living)
            for moment in moments_between(living)[2:]:
                many = [told[1] for told in steps if fraction(told[0]) <= moment][-1]
                self.assertEqual(len(frames_at(living, pair(moment))), many)

    def test_without_knocks(self):
        self.assertEqual(self.check(judged_lives(still(KITE), 1)), (((0, 1), 3),))
        self.assertEqual(staircase(Living([], [])), (((0, 1), 0),))

    def test_hands_alone(self):
        self.assertEqual(self.check(judged_lives(EAR, 1)), (((0, 1), 3),))

    def test_what_goes_up_and_down(self):
        self.assertEqual([many for moment, many in self.check(judged_lives(MEET, 1))], [3, 1])
        self.assertEqual([many for moment, many in self.check(judged_lives(PART, 1))], [1, 3])
        self.assertEqual([many for moment, many in self.check(judged_lives(RINGS, 1))], [2, 4, 2])

    def test_several_knocks_at_one_moment(self):
        for film, ratio in ((AT_ONCE, 1), (TWO_AT_ONCE, 2)):
            self.check(judged_lives(film, ratio))
        # Two squares meet and two part at 1/2: as many as there were; and two more meet at 2/3.
        posts = ()
        lives = [((0,) * 4, (k,), birth, death, posts, posts, 1) for k, (birth, death) in enumerate(
            [((0, 1), (1, 2)), ((0, 1), (1, 2)), ((1, 2), (2, 3)), ((1, 2), (2, 3))])]
        knocks = [((1, 2), posts, 0, 1, "meet"), ((1, 2), posts, 2, 3, "part"), ((2, 3), posts, 2, 3, "meet")]
        self.assertEqual(staircase(Living(lives, knocks)), (((0, 1), 2), ((1, 2), 2), ((2, 3), 0)))

    def test_errors(self):
        living = judged_lives(EAR, 1)

        class Other(Living):
            pass

        for bad in (None, True, 0, living.parts, (), Paper("living", *living.parts), Jammed((1, 2), ()), Living, EAR, object(),
                    Other(*living.parts)):
            self.check_part(BadPaper, "living", staircase, bad)


if __name__ == "__main__":
    unittest.main()

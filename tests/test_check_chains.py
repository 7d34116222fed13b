import unittest

from oddsquares.chains import Chains, Joined, chains_of, joined
from oddsquares.check_chains import shows_chains, shows_joined
from oddsquares.errors import BadFilm, BadPaper, BadRatio, Misfit, TooMany
from oddsquares.fences import Fence
from oddsquares.films import Film
from oddsquares.frames import readings
from oddsquares.lives import Jammed, Living, judged_lives
from oddsquares.papers import Denial, Paper
from tests.bent import bent_posts, bent_values
from tests.shapes import TRI, star
from tests.told import AT_FIRST, BENT_EAR, CORNERED, EAR, MEET, RINGS, SLIDING, UNSAFE, still
from tests.values import NO_RATIOS, Raises, in_lists

NO_PAPERS = (None, True, False, 0, 1, "chains", (), [], {}, object(), Chains, Joined, Paper("chains", (), ()), Denial("joined", ()),
             Chains(None, None), Joined(None), Joined([None]), Chains([None], []), Jammed(None, None))


class ShowsChainsTest(Raises, unittest.TestCase):
    def check(self, living, value, right):
        self.assertIs(shows_chains(living, value), right, getattr(value, "parts", value))
        self.assertIs(shows_chains(value=value, living=living), right)

    def test_the_chains(self):
        for film, ratio in ((EAR, 1), (BENT_EAR, 1), (BENT_EAR, 2), (RINGS, 2), (AT_FIRST, 1)):
            living = judged_lives(film, ratio)
            told = chains_of(living)
            chains, rings = told.parts
            self.check(living, told, True)
            self.check(living, Chains(in_lists(chains), in_lists(rings)), True)
            self.check(Living(in_lists(living.lives), in_lists(living.knocks)), told, True)
            self.check(living, Chains(chains[1:], rings), False)
            self.check(living, Chains(chains + chains[-1:], rings), False)
            self.check(living, Chains(chains[::-1], rings), False)
            self.check(living, Chains(rings, chains), False)
            self.check(living, Chains(chains, rings + ((0, 1),)), False)
            self.check(living, Paper("chains", chains, rings), False)

    def test_bent(self):
        for film, ratio in ((BENT_EAR, 1), (RINGS, 1)):
            living = judged_lives(film, ratio)
            chains, rings = chains_of(living).parts
            for number, chain in enumerate(chains):
                for bent in bent_values(chain):
                    self.check(living, Chains(chains[:number] + (bent,) + chains[number + 1:], rings), False)
            for bent in bent_values(rings):
                if bent != rings:
                    self.check(living, Chains(chains, bent), False)

    def test_the_other_way_round(self):
        living = judged_lives(RINGS, 1)
        chains, rings = chains_of(living).parts
        ring = rings[0]
        self.check(living, Chains(chains, (ring[:1] + ring[:0:-1],)), False)
        self.check(living, Chains(chains, (ring[1:] + ring[:1],)), False)
        one, other, links = chains[0]
        self.check(living, Chains(((other, one, links[::-1]),) + chains[1:], rings), False)

    def test_no_papers(self):
        living = judged_lives(EAR, 1)
        for value in NO_PAPERS + (living, joined(EAR, 1)):
            self.check(living, value, False)

    def test_errors(self):
        living = judged_lives(EAR, 1)
        for value in (None, chains_of(living)):
            for bad in (None, True, 0, living.parts, (), Paper("living", *living.parts), Jammed((1, 2), ()), Living, EAR, object()):
                self.check_part(BadPaper, "living", shows_chains, bad, value)


class ShowsJoinedTest(Raises, unittest.TestCase):
    def check(self, film, ratio, value, right):
        self.assertIs(shows_joined(film, ratio, value), right, getattr(value, "parts", value))
        self.assertIs(shows_joined(ratio=ratio, value=value, film=film), right)

    def test_the_joined(self):
        for film, ratio in ((EAR, 1), (BENT_EAR, 1), (MEET, 2)):
            pairs = joined(film, ratio).pairs
            self.check(film, ratio, Joined(pairs), True)
            self.check(film, ratio, Joined(in_lists(pairs)), True)
            for number, (one, other) in enumerate(pairs):
                self.check(film, ratio, Joined(pairs[:number] + pairs[number + 1:]), False)
                self.check(film, ratio, Joined(pairs[:number + 1] + pairs[number:]), False)
                self.check(film, ratio, Joined(pairs[:number] + ((other, one),) + pairs[number + 1:]), False)
            self.check(film, ratio, Joined(pairs[::-1]), False)
            self.check(film, ratio, Joined([]), False)
            self.check(film, ratio, Paper("joined", pairs), False)
        self.check(EAR, 1, joined(MEET, 1), False)

    def test_bent(self):
        pairs = joined(still(TRI), 1).pairs
        for number, both in enumerate(pairs):
            for bent in bent_values(both):
                self.assertIs(shows_joined(still(TRI), 1, Joined(pairs[:number] + (bent,) + pairs[number + 1:])), False, bent)

    def test_jammed(self):
        for film in (CORNERED, SLIDING):
            told = joined(film, 1)
            for posts in readings(told.posts, 1):
                # Each right Jammed, also one that is not told.
                self.check(film, 1, Jammed(told.moment, posts), True)
            self.check(film, 1, Jammed((1, 2), told.posts), False)
            self.check(film, 1, Joined([]), False)
            self.check(film, 1, judged_lives(EAR, 1), False)
            self.check(EAR, 1, told, False)
        told = joined(CORNERED, 1)
        for posts in bent_posts(told.posts):
            if posts != told.posts[1:] + told.posts[:1]:
                self.assertIs(shows_joined(CORNERED, 1, Jammed(told.moment, posts)), False)

    def test_no_papers(self):
        for value in NO_PAPERS + (judged_lives(EAR, 1), chains_of(judged_lives(EAR, 1))):
            self.check(EAR, 1, value, False)
            self.check(CORNERED, 1, value, False)

    def test_errors(self):
        for value in (None, joined(EAR, 1)):
            for bad in (None, True, 0, "", [], Fence(TRI), Film, object()):
                self.check_part(BadFilm, "film", shows_joined, bad, None, value)
            for bad in NO_RATIOS:
                self.check_part(BadRatio, "ratio", shows_joined, UNSAFE[0], bad, value)
            for film in UNSAFE:
                self.check_part(Misfit, "film", shows_joined, film, 1, value)
            self.check_raises(TooMany, {"what": "sides", "most": 14}, shows_joined, still(star(15, 9)), 1, value)


if __name__ == "__main__":
    unittest.main()

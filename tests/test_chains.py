import unittest
from fractions import Fraction

from oddsquares.chains import Chains, Joined, chains_of, joined
from oddsquares.errors import BadFilm, BadPaper, BadRatio, Misfit, TooMany
from oddsquares.fences import Fence
from oddsquares.films import Film
from oddsquares.judged import judged
from oddsquares.lives import Jammed, Living, judged_lives
from oddsquares.lots import Lot
from oddsquares.papers import Denial, Paper
from tests.shapes import KITE, TRI, cell, star
from tests.test_lives import moments_between, plain_films
from tests.told import (AT_FIRST, BENT_EAR, CORNERED, DART, EAR, GERMS, GROWN, LARGE, MEET, PART, RING, RING_OF_OBLONGS,
                        RING_OF_SQUARES, RINGS, SLIDING, TWO_EARS, UNSAFE, WITHIN, moved, still)
from tests.values import NO_RATIOS, Raises, fraction, in_lists, pair

NO_FILMS = (None, True, 0, "", [], ([TRI], [TRI]), Fence(TRI), Lot([Fence(TRI)]), Film, object())


def ends_of(living):
    """For each end (life, 0 or 1) within the film the end of the other life of its knock."""
    others = {}
    for moment, posts, one, other, what in living.knocks:
        ends = [(number, 1 if living.lives[number][3] == moment else 0) for number in (one, other)]
        others[ends[0]], others[ends[1]] = ends[::-1]
    return others


def is_germ(life, moment):
    return len(set(life[4 + moment])) == 1


class ChainsTest(Raises, unittest.TestCase):
    def check_chains(self, living):
        told = chains_of(living)
        others = ends_of(living)
        lives = living.lives
        for one, other, links in told.chains:
            self.assertLess(one, other)
            for (moment, number, germ), link in ((one, links[0]), (other, links[-1])):
                self.assertEqual(number, link)
                self.assertEqual(lives[number][2 + moment], (moment, 1))
                self.assertEqual((type(moment), type(germ), germ), (int, bool, is_germ(lives[number], moment)))
            self.assertEqual(self.walked((one[1], one[0]), others), links)
        for ring in told.rings:
            self.assertEqual(ring[0], min(ring))
            self.assertEqual(self.walked((ring[0], 0), others), ring)
        rows = [links for one, other, links in told.chains] + list(told.rings)
        self.assertEqual(sorted(number for row in rows for number in row), list(range(len(lives))))
        for row in rows:
            self.assertEqual(len({lives[number][0] for number in row}), 1)
        for part in told.parts:
            self.assertEqual(list(part), sorted(set(part)))
        tips = [tip for chain in told.chains for tip in chain[:2]]
        self.assertEqual(sorted(tip[:2] for tip in tips), sorted((moment, number) for number, life in enumerate(lives)
                                                                  for moment in (0, 1) if life[2 + moment] == (moment, 1)))
        return told

    def walked(self, start, others):
        """The lives that one goes through from this end of a life."""
        links, (number, end) = [], start
        while True:
            links.append(number)
            there = others.get((number, 1 - end))
            if there is None or there == start:
                return tuple(links)
            number, end = there

    def test_chains(self):
        for film, ratio in plain_films():
            with self.subTest(film=film.first, ratio=ratio):
                living = judged_lives(film, ratio)
                told = self.check_chains(living)
                self.assertEqual((told.word, bool(told)), ("chains", True))
                anew = Living(in_lists(living.lives), in_lists(living.knocks))
                self.assertEqual(chains_of(living=anew), told)

    def test_rings(self):
        for film, ratio, many in ((RINGS, 1, [3]), (RINGS, 2, [3, 3]), (RING_OF_SQUARES, 1, [4]), (RING_OF_SQUARES, 2, []),
                                  (RING_OF_OBLONGS, 2, [4]), (RING_OF_OBLONGS, 1, []), (EAR, 1, [])):
            living = judged_lives(film, ratio)
            rings = chains_of(living).rings
            self.assertEqual([len(ring) for ring in rings], many)
            for ring in rings:
                # Next comes the life with which the least one shares the knock of its death.
                death = living.lives[ring[0]][3]
                self.assertIn((death, *sorted((ring[0], ring[1]))), [(knock[0], *knock[2:4]) for knock in living.knocks])

    def test_no_lives(self):
        self.assertEqual(chains_of(Living([], [])), Chains([], []))

    def test_backward(self):
        for film, ratio in plain_films():
            told, back = (chains_of(judged_lives(way, ratio)) for way in (film, film.backward()))
            turned = sorted((*sorted((1 - moment, number, germ) for moment, number, germ in chain[:2]), sorted(chain[2]))
                            for chain in told.chains)
            self.assertEqual([(one, other, sorted(links)) for one, other, links in back.chains], turned)
            self.assertEqual(sorted(sorted(ring) for ring in back.rings), sorted(sorted(ring) for ring in told.rings))

    def test_papers(self):
        told = Chains(rings=[[1]], chains=[[2]])
        self.assertEqual((told.word, told.parts, told.chains, told.rings), ("chains", (((2,),), ((1,),)), ((2,),), ((1,),)))
        self.assertEqual((Joined(pairs=[[0]]).word, Joined([[0]]).pairs, bool(Joined([]))), ("joined", ((0,),), True))
        for paper in (told, Joined([])):
            self.assertIsInstance(paper, Paper)
            self.assertNotIsInstance(paper, Denial)

    def test_errors(self):
        living = judged_lives(EAR, 1)

        class Other(Living):
            pass

        for bad in (None, True, 0, living.parts, (), Paper("living", *living.parts), Jammed((1, 2), ()), Living, EAR, object(),
                    Other(*living.parts), chains_of(living)):
            self.check_part(BadPaper, "living", chains_of, bad)


class JoinedTest(Raises, unittest.TestCase):
    def check_pairs(self, film, ratio):
        told = joined(film, ratio)
        self.assertEqual((type(told), told.word, bool(told)), (Joined, "joined", True))
        rows = [judged(film.at(moment), ratio).rows for moment in (0, 1)]
        frames = [frame for both in told.pairs for frame in both]
        self.assertEqual(sorted(frames), [(moment, number) for moment in (0, 1) for number in range(len(rows[moment]))])
        self.assertEqual(list(told.pairs), sorted(told.pairs))
        for (moment, number), (other_moment, other) in told.pairs:
            self.assertLess((moment, number), (other_moment, other))
            one, two = rows[moment][number], rows[other_moment][other]
            self.assertEqual(one[0], two[0])
            self.assertEqual(one[3], two[3] if moment != other_moment else -two[3])
        self.assertEqual(joined(ratio=ratio, film=Film(in_lists(film.first), in_lists(film.last))), told)
        return told, rows

    def partners(self, told):
        partners = dict(told.pairs)
        partners.update({other: one for one, other in told.pairs})
        return partners

    def test_pairs(self):
        for film, ratio in plain_films():
            with self.subTest(film=film.first, ratio=ratio):
                told, rows = self.check_pairs(film, ratio)
                self.assertEqual(self.own_pairs(film, ratio, rows), told.pairs)

    def own_pairs(self, film, ratio, rows):
        """The pairs by the chains, a frame being known by its posts."""
        living = judged_lives(film, ratio)
        chains = chains_of(living).chains
        ways = {}
        for one, other, links in chains:
            ways[one], ways[other] = other, one
        germs = {}
        for tip in sorted(ways):
            if tip[2]:
                germs.setdefault((tip[0], living.lives[tip[1]][4 + tip[0]]), []).append(tip)
        links = {}
        for told in germs.values():
            if len(told) == 2:
                links[told[0]], links[told[1]] = told[::-1]
            else:
                for one, other in zip(*[[tip for tip in told if living.lives[tip[1]][6] == sign] for sign in (1, -1)]):
                    links[one], links[other] = other, one
        self.assertEqual(sorted(links), [tip for tip in sorted(ways) if tip[2]])
        places = [{row[2]: number for number, row in enumerate(told)} for told in rows]
        pairs = []
        for tip in ways:
            if not tip[2]:
                goal = ways[tip]
                while goal[2]:
                    goal = ways[links[goal]]
                frames = [(moment, places[moment][living.lives[number][4 + moment]]) for moment, number, germ in (tip, goal)]
                pairs.append(tuple(sorted(frames)))
        return tuple(sorted(set(pairs)))

    def test_germs_are_linked(self):
        for film, ratio, many in ((BENT_EAR, 1, 2), (DART, 1, 2), (AT_FIRST, 1, 2), (GERMS, 1, 2), (GERMS, 2, 4), (DART, (3, 2), 4),
                                  (TWO_EARS, 1, 4)):
            chains = chains_of(judged_lives(film, ratio)).chains
            self.assertEqual(sum(tip[2] for chain in chains for tip in chain[:2]), many)
            self.check_pairs(film, ratio)

    def test_still(self):
        for rows in ((TRI,), (KITE,), RING):
            for ratio in (1, 2):
                told, rows_told = self.check_pairs(still(*rows), ratio)
                self.assertEqual(told.pairs, tuple(((0, k), (1, k)) for k in range(len(rows_told[0]))))

    def test_moved_and_grown(self):
        for film in (GROWN, Film([KITE], [moved(KITE, 5, (1, 3))])):
            told, rows = self.check_pairs(film, 1)
            self.assertEqual(told.pairs, tuple(((0, k), (1, k)) for k in range(len(rows[0]))))

    def test_backward(self):
        for film, ratio in plain_films():
            turned = [tuple(sorted((1 - moment, number) for moment, number in both)) for both in joined(film, ratio).pairs]
            self.assertEqual(joined(film.backward(), ratio).pairs, tuple(sorted(turned)))

    def test_parts(self):
        for film, ratio in ((EAR, 1), (BENT_EAR, 1), (BENT_EAR, 2), (GERMS, 2), (PART, 1), (RINGS, 2), (WITHIN, 1)):
            told = joined(film, ratio)
            for moment in moments_between(judged_lives(film, ratio))[2::3]:
                parts = [self.partners(joined(film.part(start, stop), ratio))
                         for start, stop in ((0, pair(moment)), (pair(moment), 1))]
                for place, other in self.partners(told).items():
                    number, frame = place[0], place
                    while True:
                        frame = parts[number][frame]
                        if frame[0] == number:
                            break
                        number, frame = 1 - number, (1 - frame[0], frame[1])
                    self.assertEqual(frame, other)

    def test_meets_and_parts(self):
        told, rows = self.check_pairs(MEET, 1)
        self.assertEqual((told.pairs, [len(part) for part in rows]), ((((0, 0), (0, 2)), ((0, 1), (1, 0))), [3, 1]))
        told, rows = self.check_pairs(MEET.backward(), 1)
        self.assertEqual(told.pairs, (((0, 0), (1, 1)), ((1, 0), (1, 2))))

    def test_jammed(self):
        for film, ratio in ((CORNERED, 1), (SLIDING, 1), (still(cell(0, 0)), 2)):
            self.assertEqual(joined(film, ratio), judged_lives(film, ratio))
            self.assertIs(type(joined(film, ratio)), Jammed)

    def test_sums_of_kinds(self):
        film = Film([LARGE, TRI], [LARGE, moved(TRI, 2, 3, (3, 2))])
        for ratio in (1, 2):
            told, rows = self.check_pairs(film, ratio)
            self.assertEqual(len(rows[0]) % 2, len(rows[1]) % 2)
        self.assertEqual(fraction((1, 2)), Fraction(1, 2))

    def test_errors(self):
        for bad in NO_FILMS:
            self.check_part(BadFilm, "film", joined, bad, None)
        for bad in NO_RATIOS:
            self.check_part(BadRatio, "ratio", joined, UNSAFE[0], bad)
        for film in UNSAFE:
            self.check_part(Misfit, "film", joined, film, 1)
        self.check_raises(TooMany, {"what": "sides", "most": 14}, joined, still(star(15, 9)), 1)


if __name__ == "__main__":
    unittest.main()

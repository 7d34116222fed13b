import unittest

from oddsquares.chains import joined
from oddsquares.check_lives import shows_lives
from oddsquares.check_stories import shows_story
from oddsquares.earfilms import ear_film
from oddsquares.ears import cut, ears, home_row
from oddsquares.errors import BadEars, BadLot, BadNumber, BadRatio, TooMany
from oddsquares.fences import Fence
from oddsquares.frames import readings
from oddsquares.judged import judged
from oddsquares.lives import Jammed, judged_lives
from oddsquares.papers import Denial, Paper
from oddsquares.stories import Halted, Story, story
from tests.bent import bent_values
from tests.shapes import DENT, KITE, TRI, cell, star
from tests.told import BENT, LARGE, lot_of, moved
from tests.values import NO_INTEGERS, Raises, in_lists

NO_LOTS = (None, True, 0, "", [], [Fence(TRI)], Fence(TRI), TRI, object())
HEXAGON = ((0, 0), (7, -1), (11, 4), (9, 10), (2, 11), (-3, 5))
ZIGZAG = ((0, 0), (12, 1), (5, 3), (13, 7), (4, 8), (-1, 13))
BOX = cell(0, 0)
# By what is cut, both films are plain, or the first one is not, or the second one.
LATE = ((0, 0), (5, -1), (4, 4), (2, 5), (0, 4))
COMES_BACK = ((2, 3), (3, 0), (10, 0), (6, 5))


def stories():
    """Lots, fences and cuts: to a triangle and part of the way."""
    told = []
    for rows, fence in (((KITE,), 0), ((DENT,), 0), ((BENT,), 0), ((COMES_BACK,), 0), ((HEXAGON,), 0), ((ZIGZAG,), 0),
                        ((star(7, 9),), 0), ((KITE, moved(TRI, 9, 1)), 0), ((LARGE, KITE), 1), ((moved(TRI, -9, 1), DENT), 1)):
        lot = lot_of(*rows)
        cuts = home_row(lot, fence)
        told.extend((lot, fence, cuts[:many]) for many in range(1, len(cuts) + 1))
        told.append((lot, fence, ears(lot, fence)[-1:]))
    return told


class StoryTest(Raises, unittest.TestCase):
    def own_films(self, lot, fence, cuts):
        """The films, and the last lot."""
        films = []
        for corner in cuts:
            films.append(ear_film(lot, fence, corner))
            lot = cut(lot, fence, corner)
        return films, lot

    def own_goal(self, partners, step, square):
        """Where one comes from a square of the first lot (step 0) or of the last one, by a row of hops."""
        number, frame = (0, (0, square)) if step == 0 else (len(partners) - 1, (1, square))
        while True:
            moment, row = partners[number][frame]
            if (number, moment) in ((0, 0), (len(partners) - 1, 1)):
                return (0 if moment == 0 else len(partners), row)
            number, frame = (number + 1, (0, row)) if moment == 1 else (number - 1, (1, row))

    def check(self, lot, fence, cuts):
        told = story(lot, fence, cuts)
        self.assertEqual(story(cuts=list(cuts), lot=lot, fence=fence), told)
        films, last = self.own_films(lot, fence, cuts)
        papers = [joined(film, 1) for film in films]
        self.assertIs(shows_story(lot, fence, cuts, told), True)
        if not all(papers):
            self.check_halted(told, films, papers)
            return told
        self.assertEqual((type(told), told.word, bool(told)), (Story, "story", True))
        partners = []
        for paper in papers:
            partners.append(dict(paper.pairs))
            partners[-1].update({other: one for one, other in paper.pairs})
        many, many_last = len(judged(lot, 1).rows), len(judged(last, 1).rows)
        goals = [self.own_goal(partners, 0, square) for square in range(many)]
        backs = [self.own_goal(partners, len(films), square) for square in range(many_last)]
        self.assertEqual(told.pairs, tuple((k, row) for k, (step, row) in enumerate(goals) if step == 0 and k < row))
        self.assertEqual(told.home, tuple((k, row) for k, (step, row) in enumerate(goals) if step > 0))
        self.assertEqual(told.back, tuple((k, row) for k, (step, row) in enumerate(backs) if step > 0 and k < row))
        self.check_all_once(told, many, many_last)
        self.check_others(told, lot, last, fence)
        return told

    def check_all_once(self, told, many, many_last):
        squares = [square for both in told.pairs for square in both] + [one for one, other in told.home]
        self.assertEqual(sorted(squares), list(range(many)))
        squares = [square for both in told.back for square in both] + [other for one, other in told.home]
        self.assertEqual(sorted(squares), list(range(many_last)))

    def check_others(self, told, lot, last, fence):
        """Squares that stand on other fences alone come home to themselves."""
        rows, last_rows = judged(lot, 1).rows, judged(last, 1).rows
        for number, row in enumerate(rows):
            if fence not in row[0]:
                self.assertIn((number, last_rows.index(row)), told.home)

    def check_halted(self, told, films, papers):
        step = [bool(paper) for paper in papers].index(False)
        self.assertEqual((type(told), told.word, bool(told), told.step), (Halted, "halted", False, step))
        self.assertIs(type(told.why), Jammed)
        self.assertIs(shows_lives(films[step], 1, told.why), True)

    def test_stories(self):
        kinds = set()
        for lot, fence, cuts in stories():
            with self.subTest(lot=lot.fences[fence].corners, cuts=cuts):
                told = self.check(lot, fence, cuts)
                if told and len(lot) == 1 and len(lot.fences[0]) - len(cuts) == 3:
                    self.assertIn(len(judged(self.own_films(lot, fence, cuts)[1], 1).rows), (1, 3))
                kinds.add((told.word, len(cuts) > 1, bool(told and told.pairs), bool(told and told.back)))
        self.assertLessEqual({("story", True, True, False), ("story", False, False, True)}, kinds)

    def test_cuts_in_lists_and_tuples(self):
        self.assertEqual(story(lot_of(BENT), 0, [2]), Story([(0, 3), (1, 4), (2, 5)], [(6, 0)], []))
        self.assertEqual(story(lot_of(BENT), 0, (2,)), Story([(0, 3), (1, 4), (2, 5)], [(6, 0)], []))

    def test_other_cuts_other_pairs(self):
        self.assertEqual([story(lot_of(KITE), 0, [corner]).pairs for corner in (0, 1, 2, 3)], [((0, 2),), (), (), ((1, 2),)])

    def test_halted(self):
        # The lot itself is not plain: film 0, whatever is cut.
        for cuts in ([0], [1], [2], [3]):
            self.assertEqual(self.check(lot_of(BOX), 0, cuts).step, 0)
        lot = lot_of(LATE)
        steps = set()
        for one in ears(lot, 0):
            for other in ears(cut(lot, 0, one), 0):
                told = self.check(lot, 0, [one, other])
                steps.add(None if told else told.step)
        self.assertEqual(steps, {0, 1, None})

    def test_13_sides_and_14(self):
        lot = lot_of(star(9, 9), star(4, 9, (30, 0)))
        self.check(lot, 1, [ears(lot, 1)[0]])
        lot = lot_of(star(13, 9))
        self.check(lot, 0, home_row(lot, 0)[:2])
        for rows in ((star(14, 9),), (star(10, 9), star(4, 9, (30, 0)))):
            lot = lot_of(*rows)
            self.check_raises(TooMany, {"what": "sides", "most": 13}, story, lot, 0, home_row(lot, 0))
            self.check_part(BadEars, "cuts", story, lot, 0, [])

    def test_papers(self):
        told = Story(back=[[1, 2]], pairs=[], home=[(0, 1)])
        self.assertEqual((told.parts, told.pairs, told.home, told.back), (((), ((0, 1),), ((1, 2),)), (), ((0, 1),), ((1, 2),)))
        self.assertNotIsInstance(told, Denial)
        halted = Halted(why=told, step=[3])
        self.assertEqual((halted.parts, halted.step, halted.why), (((3,), told), (3,), told))
        self.assertIsInstance(halted, Denial)
        self.assertEqual(Halted(1, Jammed((1, 2), [])), Halted(1, Jammed([1, 2], ())))
        self.assertNotEqual(Halted(1, Jammed((1, 2), [])), Halted(1, Jammed((1, 3), [])))

    def test_errors(self):
        lot = lot_of(KITE)
        for bad in NO_LOTS:
            self.check_part(BadLot, "lot", story, bad, None, None)
        for bad in NO_INTEGERS + (-1, 1):
            self.check_part(BadNumber, "fence", story, lot, bad, None)
        for bad in (None, True, 0, 2, "2", (), [], {2: 0}, {2}, object(), iter([2]), [2, 1], [4], [-1], [True], [2.0], [[2]], [2, 0],
                    range(1)):
            self.check_part(BadEars, "cuts", story, lot, 0, bad)
        for corner in (0, 2):
            self.check_part(BadEars, "cuts", story, lot_of(DENT), 0, [corner])
        self.check_part(BadEars, "cuts", story, lot_of(TRI), 0, [0])
        for bad in NO_INTEGERS + (-1, 9):
            self.check_part(BadEars, "cuts", story, lot_of(HEXAGON), 0, [0, bad])
        self.assertRaises(BadRatio, judged_lives, ear_film(lot, 0, 2), 0)


class ShowsStoryTest(Raises, unittest.TestCase):
    def check(self, lot, fence, cuts, value, right):
        self.assertIs(shows_story(lot, fence, cuts, value), right, getattr(value, "parts", value))
        self.assertIs(shows_story(value=value, cuts=tuple(cuts), fence=fence, lot=lot), right)

    def test_the_story(self):
        for rows, cuts in ((BENT, [2]), (KITE, [2]), (((2, 3), (3, 0), (10, 0), (6, 5)), [0])):
            lot = lot_of(rows)
            pairs, home, back = story(lot, 0, cuts).parts
            self.check(lot, 0, cuts, Story(pairs, home, back), True)
            self.check(lot, 0, cuts, Story(in_lists(pairs), in_lists(home), in_lists(back)), True)
            self.check(lot, 0, cuts, Story(back, home, pairs), pairs == back)
            self.check(lot, 0, cuts, Story(pairs, home[1:], back), False)
            self.check(lot, 0, cuts, Story(pairs, home + home[:1], back), False)
            self.check(lot, 0, cuts, Story(pairs + ((0, 1),), home, back), False)
            self.check(lot, 0, cuts, Story(pairs, home, back + ((0, 1),)), False)
            self.check(lot, 0, cuts, Paper("story", pairs, home, back), False)

    def test_bent(self):
        lot = lot_of(BENT)
        parts = story(lot, 0, [2]).parts
        for place, part in enumerate(parts):
            for bent in bent_values(part):
                if bent != part:
                    told = parts[:place] + (bent,) + parts[place + 1:]
                    self.assertIs(shows_story(lot, 0, [2], Story(*told)), False, told)

    def test_halted(self):
        for rows, cuts in ((BOX, [2]), (BOX, [0])):
            lot = lot_of(rows)
            told = story(lot, 0, cuts)
            why = told.why
            self.check(lot, 0, cuts, told, True)
            for posts in readings(why.posts, 1):
                self.check(lot, 0, cuts, Halted(0, Jammed(in_lists(why.moment), in_lists(posts))), True)
            # A right Jammed that is not the told one.
            whole = tuple(((x, 1), (y, 1)) for x, y in BOX)
            self.check(lot, 0, cuts, Halted(0, Jammed((0, 1), whole)), True)
            self.check(lot, 0, cuts, Halted(0, Jammed((1, 2), whole)), False)
            for step in (1, -1, False, True, None, 0.0, "0", (0,), (0, 1)):
                self.check(lot, 0, cuts, Halted(step, why), False)
            for bad in (None, True, 0, told, why.parts, Denial("jammed", *why.parts), Story([], [], []), Jammed(None, None)):
                self.check(lot, 0, cuts, Halted(0, bad), False)
            self.check(lot, 0, cuts, Story([], [], []), False)
            self.check(lot, 0, cuts, why, False)
            self.check(lot_of(KITE), 0, [2], told, False)

    def test_halted_at_a_later_film(self):
        found = False
        lot = lot_of(LATE)
        for one in ears(lot, 0):
            for other in ears(cut(lot, 0, one), 0):
                told = story(lot, 0, [one, other])
                for step in (0, 1):
                    right = shows_story(lot, 0, [one, other], Halted(step, getattr(told, "why", None)))
                    self.assertIs(right, not told and step == told.step)
                found = found or (not told and told.step == 1)
                if not told:
                    self.check_jams(lot, [one, other], told)
        self.assertIs(found, True)

    def check_jams(self, lot, cuts, told):
        """Each right Jammed of the step that is told is taken, and no other one."""
        why = told.why
        films = StoryTest.own_films(self, lot, 0, cuts)[0]
        for moment in ((1, 3), why.moment):
            for posts in (why.posts, why.posts[2:] + why.posts[:2], why.posts[::-1]):
                value = Jammed(moment, posts)
                self.check(lot, 0, cuts, Halted(told.step, value), shows_lives(films[told.step], 1, value))
        self.check(lot, 0, cuts, Halted(1 - told.step, why), False)
        for posts in readings(why.posts, 1):
            self.check(lot, 0, cuts, Halted(told.step, Jammed(in_lists(why.moment), in_lists(posts))), True)
        self.check(lot, 0, cuts, Halted(told.step, judged_lives(films[1 - told.step], 1)), False)
        self.check(lot, 0, cuts, Story([], [], []), False)

    def test_no_papers(self):
        class Other(Story):
            pass

        for value in (None, True, False, 0, "story", (), [], {}, object(), Story, Halted, Story(None, None, None),
                      Halted(None, None), joined(ear_film(lot_of(KITE), 0, 2), 1), Other(*story(lot_of(KITE), 0, [2]).parts)):
            self.check(lot_of(KITE), 0, [2], value, False)
            self.check(lot_of(BOX), 0, [2], value, False)

    def test_errors(self):
        lot = lot_of(KITE)
        for value in (None, story(lot, 0, [2]), story(lot_of(BOX), 0, [2])):
            for bad in NO_LOTS:
                self.check_part(BadLot, "lot", shows_story, bad, None, None, value)
            for bad in NO_INTEGERS + (-1, 1):
                self.check_part(BadNumber, "fence", shows_story, lot, bad, None, value)
            for bad in (None, 2, "2", (), [4], [2, 1], [True]):
                self.check_part(BadEars, "cuts", shows_story, lot, 0, bad, value)
            large = lot_of(star(14, 9))
            self.check_raises(TooMany, {"what": "sides", "most": 13}, shows_story, large, 0, ears(large, 0)[:1], value)


if __name__ == "__main__":
    unittest.main()

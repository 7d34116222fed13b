import unittest

from oddsquares.check_emptied import shows_emptied
from oddsquares.check_lives import shows_lives
from oddsquares.emptied import Emptied, Left, emptied
from oddsquares.errors import BadLot, BadNumber, BadPoint, BadRatio, Misfit, NoFilm, TooMany
from oddsquares.fences import Fence
from oddsquares.frames import readings
from oddsquares.lives import Jammed
from oddsquares.motions import blown
from oddsquares.papers import Denial, Paper
from tests.bent import bent_posts, bent_values
from tests.shapes import TRI, star
from tests.test_emptied import AT_FIRST, AT_LAST, BETWEEN, JAMS, NEST
from tests.told import lot_of, moved
from tests.values import NO_INTEGERS, NO_NUMBERS, NO_POINTS, NO_RATIOS, Raises, in_lists

GOOD = (NEST, 1, (1, 1), (1, 10), 1)
HALF = (NEST, 1, (1, 1), (1, 2), 1)
NONE_MIXED = (lot_of(TRI, moved(TRI, 100, 0)), 0, (1, 1), (1, 2), 1)
NO_PAPERS = (None, True, False, 0, 1, "emptied", (), [], {}, object(), Emptied, Left, Jammed, Paper("emptied", ()), Denial("left", ()),
             Emptied(None), Emptied([None]), Left(None), Left([]), Left([None]), Jammed(None, None), Jammed((0, 1), ()))


class ShowsEmptiedTest(Raises, unittest.TestCase):
    def check(self, parts, value, right):
        lot, fence, spot, share, ratio = parts
        self.assertIs(shows_emptied(lot, fence, spot, share, ratio, value), right, getattr(value, "parts", value))

    def test_names(self):
        lot, fence, spot, share, ratio = GOOD
        told = emptied(*GOOD)
        self.assertIs(shows_emptied(value=told, ratio=[1, 1], share=[1, 10], spot=[1, (1, 1)], fence=fence, lot=lot), True)

    def test_emptied(self):
        for parts in (GOOD, GOOD[:4] + (2,)):
            told = emptied(*parts)
            pairs = told.pairs
            self.check(parts, told, True)
            self.check(parts, Emptied(in_lists(pairs)), True)
            for number, (one, other) in enumerate(pairs):
                self.check(parts, Emptied(pairs[:number] + pairs[number + 1:]), False)
                self.check(parts, Emptied(pairs[:number + 1] + pairs[number:]), False)
                self.check(parts, Emptied(pairs[:number] + ((other, one),) + pairs[number + 1:]), False)
            self.check(parts, Emptied(pairs[::-1]), False)
            (a, b), (c, d) = pairs[:2]
            self.check(parts, Emptied(((a, d), (c, b)) + pairs[2:]), False)
            self.check(parts, Emptied([]), False)
            self.check(parts, Paper("emptied", pairs), False)
        self.check(GOOD, emptied(*GOOD[:4], 2), False)

    def test_bent(self):
        # The pairs of ratio 2 begin at the rows 3, 4, ..: so one of them is looked at in each part.
        pairs = emptied(*GOOD).pairs
        for bent in bent_values(pairs[0]):
            self.check(GOOD, Emptied((bent,) + pairs[1:]), False)
        for bent in bent_values(pairs[-1]):
            self.check(GOOD, Emptied(pairs[:-1] + (bent,)), False)

    def test_no_mixed_rows(self):
        self.check(NONE_MIXED, Emptied([]), True)
        for bad in ([(0, 1)], [()], None, 0, False, ""):
            self.check(NONE_MIXED, Emptied(bad), False)
        self.check(NONE_MIXED, Left([]), False)

    def test_left(self):
        told = emptied(*HALF)
        rows = told.rows
        self.check(HALF, told, True)
        self.check(HALF, Left(in_lists(rows)), True)
        for number in range(len(rows)):
            self.check(HALF, Left(rows[:number] + rows[number + 1:]), False)
            self.check(HALF, Left(rows[:number + 1] + rows[number:]), False)
        for bad in (Left(rows[::-1]), Left([]), Emptied([]), Denial("left", rows), emptied(*GOOD)):
            self.check(HALF, bad, False)
        self.check(GOOD, told, False)

    def test_bent_rows(self):
        told = emptied(*HALF)
        word, four, posts, kind = told.rows[0]
        for bent in bent_values(word):
            self.check(HALF, Left(((bent, four, posts, kind),) + told.rows[1:]), False)
        for bent in (-kind, kind == 1, float(kind), None, (kind, 1)):
            self.check(HALF, Left(((word, four, posts, bent),) + told.rows[1:]), False)
        for bent in bent_posts(posts)[::3]:
            self.check(HALF, Left(((word, four, bent, kind),) + told.rows[1:]), False)
        self.check(HALF, Left(((word, four, ((posts[0][0][0], posts[0][1]),) + posts[1:], kind),) + told.rows[1:]), False)
        # Another reading.
        self.check(HALF, Left(((word, four[1:] + four[:1], posts[1:] + posts[:1], kind),) + told.rows[1:]), False)

    def test_jams(self):
        for parts, _ in JAMS:
            told = emptied(*parts)
            film, ratio = blown(*parts[:4]), parts[4]
            self.check(parts, told, True)
            for posts in readings(told.posts, ratio):
                self.check(parts, Jammed(in_lists(told.moment), in_lists(posts)), True)
            for moment in ((0, 1), (1, 1), (1, 2), (1, 3)):
                value = Jammed(moment, told.posts)
                self.check(parts, value, shows_lives(film, ratio, value))
            for bad in (Emptied([]), Left([]), Denial("jammed", *told.parts), Jammed(told.moment, told.posts[::-1])):
                self.check(parts, bad, False)
            self.check(GOOD, told, False)
            self.check(HALF, told, False)
        self.check(AT_FIRST, emptied(*BETWEEN), False)

    def test_each_right_jam(self):
        # The bars of the lot at both moments, whichever is told.
        lot, fence, spot, share, ratio = AT_FIRST
        film = blown(lot, fence, spot, share)
        side = (12, 7)
        first = (((0, 1), (0, 1)), (side, (0, 1)), (side, side), ((0, 1), side))
        half = tuple(((x[0] + x[1], 2 * x[1]), (y[0] + y[1], 2 * y[1])) for x, y in first)
        half = tuple(tuple((top // 2, under // 2) if top % 2 == under % 2 == 0 else (top, under) for top, under in post) for post in half)
        for moment, posts in (((0, 1), first), ((1, 1), half)):
            self.assertIs(shows_lives(film, ratio, Jammed(moment, posts)), True)
            self.check(AT_FIRST, Jammed(moment, posts), True)
        self.check(AT_FIRST, Jammed((1, 1), first), False)
        for posts in bent_posts(first)[::2]:
            if posts not in readings(first, 1):
                self.check(AT_FIRST, Jammed((0, 1), posts), False)

    def test_no_papers(self):
        class Other(Emptied):
            pass

        for value in NO_PAPERS + (Other(emptied(*GOOD).pairs),):
            for parts in (GOOD, HALF, AT_FIRST, AT_LAST):
                self.check(parts, value, False)

    def test_errors(self):
        for value in (None, emptied(*GOOD), emptied(*AT_FIRST)):
            for bad in (None, True, [], Fence(TRI), object()):
                self.check_part(BadLot, "lot", shows_emptied, bad, None, None, None, None, value)
            for bad in NO_INTEGERS + (-1, 2):
                self.check_part(BadNumber, "fence", shows_emptied, NEST, bad, None, None, None, value)
            for bad in NO_POINTS[:9]:
                self.check_part(BadPoint, "spot", shows_emptied, NEST, 1, bad, None, None, value)
            for bad in NO_NUMBERS[:9] + (0, -1):
                self.check_part(BadNumber, "share", shows_emptied, NEST, 1, (1, 1), bad, None, value)
            for bad in NO_RATIOS:
                self.check_part(BadRatio, "ratio", shows_emptied, NEST, 1, (1, 1), 6, bad, value)
            self.check_raises(NoFilm, {"word": "last", "fence": 0, "side": 0}, shows_emptied, NEST, 1, (1, 1), 6, 1, value)
            self.check_part(Misfit, "film", shows_emptied, NEST, 1, (50, 50), (1, 10), 1, value)
            large = lot_of(star(8, 30, seed=3), star(7, 3))
            self.check_raises(TooMany, {"what": "sides", "most": 14}, shows_emptied, large, 1, (0, 0), (1, 10), 1, value)


if __name__ == "__main__":
    unittest.main()

import unittest

from oddsquares.check_frames import shows_judged
from oddsquares.errors import BadLot, BadRatio, TooMany
from oddsquares.fences import Fence
from oddsquares.frames import readings
from oddsquares.judged import Barred, Plain, judged
from oddsquares.papers import Denial, Paper
from tests.bent import bent_posts, bent_values
from tests.shapes import KITE, TRI, cell, star
from tests.told import RING, lot_of
from tests.values import NO_RATIOS, Raises, in_lists

TENT = lot_of(TRI)
CORNER = lot_of(((0, 0), (4, 0), (0, 3)))
BAR = (((0, 1), (0, 1)), ((12, 7), (0, 1)), ((12, 7), (12, 7)), ((0, 1), (12, 7)))
NO_PAPERS = (None, True, False, 0, 1, "plain", (), [], BAR, ("barred", BAR, 0), {}, object(), Paper("plain", ()), Denial("barred", BAR, 0),
             Plain, Barred, Plain([None]), Plain(None), Barred(None, 0), Barred(BAR, None), Barred((), 0))


class ShowsJudgedTest(Raises, unittest.TestCase):
    def check(self, lot, ratio, value, right):
        self.assertIs(shows_judged(lot, ratio, value), right, getattr(value, "parts", value))
        self.assertIs(shows_judged(value=value, lot=lot, ratio=ratio), right)

    def test_plain(self):
        for lot, ratio in ((TENT, 1), (TENT, 2), (lot_of(KITE), (1, 2)), (lot_of(*RING), 1)):
            told = judged(lot, ratio)
            self.check(lot, ratio, told, True)
            self.check(lot, ratio, Plain(in_lists(told.rows)), True)
            self.check(lot, ratio, Plain(told.rows[1:]), False)
            self.check(lot, ratio, Plain(told.rows[:-1]), False)
            self.check(lot, ratio, Plain(told.rows + told.rows[-1:]), False)
            self.check(lot, ratio, Plain(told.rows[::-1]), False)
            self.check(lot, ratio, Plain([]), False)
            self.check(lot, ratio, Paper("plain", told.rows), False)
        self.check(TENT, 2, judged(TENT, 1), False)
        self.check(TENT, (1, 2), judged(TENT, 2), False)

    def test_bent_rows(self):
        rows = judged(TENT, 2).rows
        for number, row in enumerate(rows[:2]):
            for bent in bent_values(row)[number::2]:
                self.check(TENT, 2, Plain(rows[:number] + (bent,) + rows[number + 1:]), False)
        # The posts of another reading, and the kind of another row.
        word, four, posts, kind = rows[0]
        self.check(TENT, 2, Plain(((word, four[2:] + four[:2], posts[2:] + posts[:2], kind),) + rows[1:]), False)
        self.check(TENT, 2, Plain(((word, four, posts, -kind),) + rows[1:]), False)

    def test_kind_0_at_ratio_1(self):
        rows = judged(TENT, 1).rows
        for kind in (1, -1, False, None, (0, 1), 0.0):
            self.check(TENT, 1, Plain((rows[0][:3] + (kind,),) + rows[1:]), False)

    def test_bars(self):
        told = judged(CORNER, 1)
        self.check(CORNER, 1, told, True)
        self.check(CORNER, 1, Barred(in_lists(told.posts), told.post), True)
        for step, posts in enumerate(readings(BAR, 1)):
            for post in range(4):
                self.check(CORNER, 1, Barred(posts, post), post == -step % 4)
        for post in (-4, -1, 4, True, False, None, 0.0, "0", (0, 1)):
            self.check(CORNER, 1, Barred(BAR, post), False)
        for posts in bent_posts(BAR):
            for post in range(4):
                if posts != BAR[1:] + BAR[:1]:
                    self.check(CORNER, 1, Barred(posts, post), False)

    def test_bars_of_other_ratios(self):
        told = judged(CORNER, 2)
        for posts in readings(told.posts, 2):
            self.check(CORNER, 2, Barred(posts, posts.index(((0, 1), (0, 1)))), True)
        # Told from p1 it is no frame of this ratio.
        posts = told.posts[1:] + told.posts[:1]
        for post in range(4):
            self.check(CORNER, 2, Barred(posts, post), False)
        self.check(CORNER, 2, Barred(BAR, 0), False)

    def test_frames_that_are_no_bars(self):
        box = lot_of(cell(0, 0))
        whole = tuple(((x, 1), (y, 1)) for x, y in cell(0, 0))
        for post in range(4):
            self.check(box, 1, Barred(whole, post), True)
        # No post at a corner; not on the sides; no frame.
        turned = tuple(((x, 1), (y, 1)) for x, y in ((1, 0), (4, 1), (3, 4), (0, 3)))
        within = tuple(((x, 1), (y, 1)) for x, y in ((0, 0), (3, 0), (3, 3), (0, 3)))
        wide = tuple(((x, 1), (y, 1)) for x, y in ((0, 0), (4, 0), (4, 3), (0, 3)))
        for posts in (turned, within, wide, (whole[0],) * 4):
            for post in range(4):
                self.check(box, 1, Barred(posts, post), False)

    def test_the_other_paper(self):
        self.check(TENT, 1, Barred(BAR, 0), False)
        self.check(TENT, 1, judged(CORNER, 1), False)
        self.check(CORNER, 1, judged(TENT, 1), False)
        self.check(CORNER, 1, Plain([]), False)

        class Other(Barred):
            pass

        self.check(CORNER, 1, Other(BAR, 0), False)

    def test_no_papers(self):
        for value in NO_PAPERS:
            self.check(TENT, 1, value, False)
            self.check(CORNER, 1, value, False)

    def test_errors(self):
        for value in (None, judged(TENT, 1), Barred(BAR, 0)):
            for bad in (None, True, [], Fence(TRI), object()):
                self.check_part(BadLot, "lot", shows_judged, bad, None, value)
            for bad in NO_RATIOS:
                self.check_part(BadRatio, "ratio", shows_judged, lot_of(star(17, 9)), bad, value)
            self.check_raises(TooMany, {"what": "sides", "most": 16}, shows_judged, lot_of(star(17, 9)), 1, value)


if __name__ == "__main__":
    unittest.main()

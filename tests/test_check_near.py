import unittest

from oddsquares.check_near import shows_near
from oddsquares.errors import BadLot, BadRatio, Misfit, TooMany
from oddsquares.fences import Fence
from oddsquares.frames import readings
from oddsquares.judged import Barred, Plain, judged
from oddsquares.likelots import with_straight
from oddsquares.near import Far, Near, near
from oddsquares.papers import Denial, Paper
from tests.bent import bent_posts, bent_values
from tests.shapes import KITE, TRI, cell, star
from tests.told import RING, lot_of
from tests.values import NO_RATIOS, Raises, in_lists

TENT = lot_of(TRI)
PAIR = lot_of(TRI, ((20, 0), (24, 1), (21, 5)))
CORNER = lot_of(((0, 0), (4, 0), (0, 3)))
# Plain for 1, not for 2.
BARRED_AT_2 = with_straight(TENT, 0, 0, (2, 11))
NO_PAPERS = (None, True, False, 0, 1, "near", (), [], {}, object(), Near, Far, Barred, Paper("near", ()), Denial("far", 0), Near(None),
             Near([None]), Near([]), Far(None), Far(-1), Barred(None, 0), Plain([]), Plain(None))


class ShowsNearTest(Raises, unittest.TestCase):
    def check(self, lot, ratio, value, right):
        self.assertIs(shows_near(lot, ratio, value), right, getattr(value, "parts", value))
        self.assertIs(shows_near(value=value, ratio=ratio, lot=lot), right)

    def test_near(self):
        for lot, ratio in ((TENT, 2), (TENT, (1, 2)), (lot_of(KITE), (33, 32)), (PAIR, 2), (lot_of(*RING), (1025, 1024))):
            told = near(lot, ratio)
            triples = told.triples
            self.check(lot, ratio, told, True)
            self.check(lot, ratio, Near(in_lists(triples)), True)
            for number, (one, j, k) in enumerate(triples):
                self.check(lot, ratio, Near(triples[:number] + triples[number + 1:]), False)
                self.check(lot, ratio, Near(triples[:number + 1] + triples[number:]), False)
                self.check(lot, ratio, Near(triples[:number] + ((one, k, j),) + triples[number + 1:]), False)
            self.check(lot, ratio, Near(triples[::-1]), False)
            for square in range(len(triples) + 2):
                self.check(lot, ratio, Far(square), False)
            self.check(lot, ratio, Paper("near", triples), False)

    def test_bent(self):
        triples = near(TENT, 2).triples
        for bent in bent_values(triples):
            self.check(TENT, 2, Near(bent), False)
        self.check(TENT, 2, Near([(False, False, 2)] + list(triples[1:])), False)
        self.check(TENT, 2, Near([triples[0], (True, 4, 1), triples[2]]), False)
        self.check(TENT, 2, Near([triples[0], (1, 4, True), triples[2]]), False)
        self.check(TENT, 2, Near([((0, 1), (0, 1), (2, 1))] + list(triples[1:])), False)

    def test_far(self):
        for lot, ratio, square in ((lot_of(KITE), (3, 2), 0), (lot_of(KITE), (9, 8), 2), (PAIR, 10, 6)):
            self.check(lot, ratio, near(lot, ratio), True)
            for number in range(-1, 9):
                self.check(lot, ratio, Far(number), number == square)
            for bad in (bool(square), float(square), str(square), None, (square, 1), (square,), [square]):
                self.check(lot, ratio, Far(bad), False)
            self.check(lot, ratio, Near([]), False)
            self.check(lot, ratio, near(TENT, 2), False)

    def check_bars(self, lot, ratio, own, other):
        """Bars for the ratio `own` are right, told at each reading, and such for the other one are not."""
        told = near(lot, ratio)
        self.check(lot, ratio, told, True)
        for posts in readings(told.posts, own):
            for post in range(4):
                self.check(lot, ratio, Barred(posts, post), posts[post] == told.posts[told.post])
            self.check(lot, ratio, Barred(in_lists(posts), posts.index(told.posts[told.post])), True)
        for bent in bent_posts(told.posts):
            if bent not in readings(told.posts, own):
                self.check(lot, ratio, Barred(bent, told.post), False)
        for bad in (True, None, -1, 4, (told.post, 1), float(told.post)):
            self.check(lot, ratio, Barred(told.posts, bad), False)
        bar = judged(lot, other)
        if not bar:
            self.check(lot, ratio, bar, False)

    def test_barred(self):
        for lot in (CORNER, lot_of(((0, 0), (8, 0), (0, 3)))):
            for ratio in (2, (1, 3)):
                self.check_bars(lot, ratio, 1, ratio)
        self.check_bars(BARRED_AT_2, 2, 2, 1)
        # Plain for 2, not for 1.
        lot = with_straight(TENT, 0, 0, (1, 7))
        self.check_bars(lot, 2, 1, 2)
        self.check(lot, 2, near(BARRED_AT_2, 2), False)

    def test_each_bar(self):
        box = lot_of(cell(0, 0))
        whole = tuple(((x, 1), (y, 1)) for x, y in cell(0, 0))
        for post in range(4):
            self.check(box, 2, Barred(whole, post), True)
        half = tuple(((x, 1), (y, 1)) for x, y in ((0, 0), (2, 0), (2, 4), (0, 4)))
        self.check(box, 2, Barred(half, 0), False)

    def test_the_other_paper(self):
        self.check(CORNER, 2, Far(0), False)
        self.check(CORNER, 2, Near([]), False)
        self.check(TENT, 2, near(CORNER, 2), False)
        self.check(TENT, 2, judged(TENT, 2), False)

    def test_no_papers(self):
        class Other(Far):
            pass

        for value in NO_PAPERS + (Other(0),):
            for lot, ratio in ((TENT, 2), (lot_of(KITE), (3, 2)), (CORNER, 2), (BARRED_AT_2, 2)):
                self.check(lot, ratio, value, False)

    def test_errors(self):
        large = lot_of(star(17, 9))
        for value in (None, near(TENT, 2), Far(0)):
            for bad in (None, True, [], Fence(TRI), object()):
                self.check_part(BadLot, "lot", shows_near, bad, None, value)
            for bad in NO_RATIOS:
                self.check_part(BadRatio, "ratio", shows_near, large, bad, value)
            self.check_part(Misfit, "ratio", shows_near, large, 1, value)
            self.check_part(Misfit, "ratio", shows_near, CORNER, (1, 1), value)
            self.check_raises(TooMany, {"what": "sides", "most": 16}, shows_near, large, 2, value)


if __name__ == "__main__":
    unittest.main()

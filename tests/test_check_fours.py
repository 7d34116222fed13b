import unittest

from oddsquares.check_fours import shows_four
from oddsquares.errors import BadLot, BadRatio, BadSides
from oddsquares.fences import Fence
from oddsquares.fours import Askew, Many, Off, One, Tiny, on_four
from oddsquares.lots import Lot
from oddsquares.papers import Denial, Paper
from tests.bent import bent_posts
from tests.shapes import TRI, cell
from tests.values import NO_RATIOS, Raises, in_lists

TENT = Lot([Fence(TRI)])
BLUNT = Lot([Fence([(0, 0), (4, 0), (5, 1)])])
BOX = Lot([Fence(cell(0, 0))])
BASE, RIGHT, LEFT = (0, 0), (0, 1), (0, 2)
ROUND = [(0, 0), (0, 1), (0, 2), (0, 3)]
WHOLE = (((0, 1), (0, 1)), ((4, 1), (0, 1)), ((4, 1), (4, 1)), ((0, 1), (4, 1)))
TURNED = (((1, 1), (0, 1)), ((4, 1), (1, 1)), ((3, 1), (4, 1)), ((0, 1), (3, 1)))
NO_PAPERS = (None, True, False, 0, 1, "one", "many", (), [], WHOLE, ("many", WHOLE, TURNED), {}, object(), Paper("many", WHOLE, TURNED),
             Denial("askew"), Paper("one", WHOLE), One, Many)
# For each kind of paper that on_four tells: a lot, a four, a ratio.
CASES = {"one": (TENT, [BASE, BASE, RIGHT, LEFT], 1), "tiny": (TENT, [BASE, BASE, BASE, RIGHT], 1),
         "off": (BLUNT, [BASE, BASE, RIGHT, LEFT], 1), "askew": (TENT, [BASE] * 4, 1), "many": (BOX, ROUND, 1)}


class ShowsFourTest(Raises, unittest.TestCase):
    def check(self, name, value, right):
        lot, four, ratio = CASES[name]
        self.assertIs(shows_four(lot, four, ratio, value), right, getattr(value, "parts", value))
        self.assertIs(shows_four(value=value, ratio=ratio, four=in_lists(tuple(four)), lot=lot), right)

    def test_the_papers_of_on_four(self):
        for name, case in CASES.items():
            told = on_four(*case)
            self.assertEqual(told.word, name)
            for other in CASES:
                self.check(other, told, other == name)

    def test_lists_in_papers(self):
        for case, kind in (("one", One), ("tiny", Tiny), ("off", Off), ("many", Many)):
            self.check(case, kind(*in_lists(on_four(*CASES[case]).parts)), True)

    def test_other_classes_with_the_same_parts(self):
        posts = on_four(*CASES["one"]).posts
        self.check("one", Tiny(posts), False)
        self.check("one", Paper("one", posts), False)
        self.check("askew", Denial("askew"), False)
        self.check("many", Paper("many", WHOLE, TURNED), False)

        class Other(Many):
            pass

        self.check("many", Other(WHOLE, TURNED), False)

    def test_no_papers(self):
        for name in CASES:
            for value in NO_PAPERS:
                self.check(name, value, False)

    def test_one(self):
        for posts in bent_posts(on_four(*CASES["one"]).posts):
            self.check("one", One(posts), False)

    def test_off(self):
        posts = on_four(*CASES["off"]).posts
        self.check("off", Off(posts, 1), True)
        for post in (0, 2, 3, -1, 4, True, None, "1", 1.0, (1, 1), (1,)):
            self.check("off", Off(posts, post), False)
        for told in bent_posts(posts):
            self.check("off", Off(told, 1), False)
        self.check("off", One(posts), False)

    def test_tiny(self):
        self.check("tiny", Tiny(((4, 1), (0, 1))), True)
        for point in ((4, 0), ((4, 1), 0), (4, (0, 1)), ((8, 2), (0, 1)), ((4, 1), (0, 2)), ((4, 1), (False, 1)), ((4, True), (0, 1)),
                      ((4, 1), (0, 1), (0, 1)), ((4, 1),), None, ((0, 1), (4, 1)), ((4.0, 1), (0, 1))):
            self.check("tiny", Tiny(point), False)

    def test_many(self):
        for one, other, right in ((WHOLE, TURNED, True), (TURNED, WHOLE, True), (WHOLE, WHOLE, False), (TURNED, TURNED, False)):
            self.check("many", Many(one, other), right)
        far = (((3, 1), (0, 1)), ((4, 1), (3, 1)), ((1, 1), (4, 1)), ((0, 1), (1, 1)))
        fine = (((1, 3), (0, 1)), ((4, 1), (1, 3)), ((11, 3), (4, 1)), ((0, 1), (11, 3)))
        for one in (WHOLE, TURNED, far, fine):
            for other in (WHOLE, TURNED, far, fine):
                self.check("many", Many(one, other), one != other)
        for value in (One(WHOLE), One(TURNED), Askew(), Off(WHOLE, 0), Tiny(((0, 1), (0, 1)))):
            self.check("many", value, False)

    def test_many_bent(self):
        rest = on_four(*CASES["many"]).other
        for posts in bent_posts(TURNED):
            self.check("many", Many(posts, rest), False)
            self.check("many", Many(rest, posts), False)
        # A frame that stands on the box, but not on this four, and one that stands nowhere.
        self.check("many", Many(WHOLE, TURNED[2:] + TURNED[:2]), False)
        self.check("many", Many(WHOLE, (((1, 1), (1, 1)), ((2, 1), (1, 1)), ((2, 1), (2, 1)), ((1, 1), (2, 1)))), False)

    def test_many_of_another_ratio(self):
        oblong = Lot([Fence([(0, 0), (8, 0), (8, 4), (0, 4)])])
        four = [(0, 0), (0, 0), (0, 2), (0, 2)]
        at = [tuple(((x, 1), (y, 1)) for x, y in ((k, 0), (k + 4, 0), (k + 4, 4), (k, 4))) for k in range(5)]
        self.assertIs(shows_four(oblong, four, 1, Many(at[0], at[3])), True)
        self.assertIs(shows_four(oblong, four, 1, Many(at[0], at[0])), False)
        wide = tuple(((x, 1), (y, 1)) for x, y in ((0, 0), (8, 0), (8, 4), (0, 4)))
        self.assertIs(shows_four(oblong, four, 1, Many(at[0], wide)), False)
        self.assertIs(shows_four(oblong, four, (1, 2), One(wide)), True)
        self.assertIs(shows_four(oblong, four, (1, 2), Many(wide, wide)), False)

    def test_errors(self):
        for value in (None, One(WHOLE), Many(WHOLE, TURNED)):
            for bad in (None, True, [], Fence(TRI), object()):
                self.check_part(BadLot, "lot", shows_four, bad, None, None, value)
            for bad in (None, [], ROUND[:3], [(0, 4)] * 4, [(0, True)] * 4, "0123"):
                self.check_part(BadSides, "four", shows_four, BOX, bad, None, value)
            for bad in NO_RATIOS:
                self.check_part(BadRatio, "ratio", shows_four, BOX, ROUND, bad, value)


if __name__ == "__main__":
    unittest.main()

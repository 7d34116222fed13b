import unittest
from fractions import Fraction

from oddsquares.errors import BadLot, BadNumber, BadPaper, BadSides, TooMany
from oddsquares.fences import Fence
from oddsquares.hinges import Hinged, Loose, hinge_sums, judged_hinges, spot_of
from oddsquares.judged import judged
from oddsquares.lots import Lot
from oddsquares.papers import Denial, Paper
from tests.shapes import DENT, KITE, STRAIGHT, TRI, cell, comb, cross, dot, minus, on_side, star
from tests.told import BENT, LARGE, RING, lot_of, moved
from tests.values import NO_NUMBERS, NO_POINTS, Raises, fraction, fractions_of, in_lists, pair

NO_LOTS = (None, True, 0, "", [], [Fence(TRI)], Fence(TRI), TRI, object(), Lot)
LOTS = (lot_of(TRI), lot_of(KITE), lot_of(DENT), lot_of(BENT), lot_of(STRAIGHT), lot_of(*RING), lot_of(LARGE, TRI), lot_of(TRI, moved(KITE, 5, 2)),
        lot_of(cell(0, 0)), lot_of(comb(2)), lot_of(LARGE, TRI, moved(TRI, 3, -6)))
TURNS = ((0, 1), (0, -1), (1, 1), ((1, 2), (-1, 3)), (0, (1, 2)), (0, -2), (-1, (1, 10 ** 9)), ((7, 5), (-8, 3)), [[-3, 2], 2])


class OwnHinges:
    """The hinges of a lot at a spot, worked out with Python's own fractions."""

    def __init__(self, lot, at, share, turn):
        self.lot = lot
        self.sides = {at: tuple(fractions_of(point) for point in lot.side(at)) for at in lot.sides}
        self.corners = [fractions_of(corner) for fence in lot.fences for corner in fence.corners]
        start, end = self.sides[at]
        self.spot = tuple(p + fraction(share) * (q - p) for p, q in zip(start, end))
        self.turn = tuple(fraction(part) for part in turn)

    def turned(self, way):
        a, b = self.turn
        return (a * way[0] - b * way[1], a * way[1] + b * way[0])

    def image(self, point):
        way = self.turned(minus(point, self.spot))
        return (self.spot[0] + way[0], self.spot[1] + way[1])

    def source(self, image):
        """The point of which this is the image."""
        a, b = self.turn
        x, y = minus(image, self.spot)
        size = a * a + b * b
        return (self.spot[0] + (a * x + b * y) / size, self.spot[1] + (a * y - b * x) / size)

    def is_on_lot(self, point):
        return any(on_side(point, side) for side in self.sides.values())

    def loose(self):
        """All hinges that are a corner, or have one as their image."""
        told = [(corner, self.image(corner)) for corner in self.corners if self.is_on_lot(self.image(corner))]
        return told + [(self.source(corner), corner) for corner in self.corners if self.is_on_lot(self.source(corner))]

    def hinge(self, one, other):
        """The hinge from a side to another one, if there is one and their images are not in one line."""
        (start, end), (begin, stop) = self.sides[one], self.sides[other]
        way, told = self.turned(minus(end, start)), minus(stop, begin)
        if cross(way, told) == 0:
            return None
        gap = minus(begin, self.image(start))
        share, other_share = cross(gap, told) / cross(way, told), cross(gap, way) / cross(way, told)
        if not (0 <= share <= 1 and 0 <= other_share <= 1):
            return None
        q = tuple(p + share * (r - p) for p, r in zip(start, end))
        return None if q == self.spot else (q, self.image(q), 1 if cross(way, told) > 0 else -1)

    def rows(self):
        rows = []
        for one in self.sides:
            for other in self.sides:
                told = self.hinge(one, other)
                if told is not None:
                    rows.append(((one[0], other[0]), (one, other), *[tuple(map(pair, point)) for point in told[:2]], told[2]))
        return tuple(sorted(rows, key=lambda row: row[:2]))


class SpotTest(Raises, unittest.TestCase):
    def test_spots(self):
        for lot in LOTS:
            for at in lot.sides:
                start, end = [fractions_of(point) for point in lot.side(at)]
                for share in ((1, 2), (1, 10 ** 30), [2, 3]):
                    told = spot_of(lot, at, share)
                    self.assertEqual(told, tuple(pair(p + fraction(share) * (q - p)) for p, q in zip(start, end)))
                    self.assertEqual(spot_of(share=share, at=list(at), lot=lot), told)

    def test_errors(self):
        lot = lot_of(LARGE, KITE)
        for bad in NO_LOTS:
            self.check_part(BadLot, "lot", spot_of, bad, None, None)
        for bad in NO_POINTS + ((0, 3), (1, 4), (2, 0), (-1, 0), (0, -1), (0, 0, 0), ((0, 1), (0, 1)), (0, 0.0), (True, 0), 5):
            self.check_part(BadSides, "at", spot_of, lot, bad, None)
        for bad in NO_NUMBERS + (0, 1, -1, 2, (0, 1), (1, 1), (-1, 2), (3, 2)):
            self.check_part(BadNumber, "share", spot_of, lot, (1, 3), bad)


class HingesTest(Raises, unittest.TestCase):
    def check(self, lot, at, share, turn):
        told = judged_hinges(lot, at, share, turn)
        self.assertEqual(judged_hinges(turn=tuple(map(pair, map(fraction, turn))), share=share, at=list(at), lot=lot), told)
        own = OwnHinges(lot, at, share, turn)
        loose = own.loose()
        if loose:
            self.assertEqual((type(told), told.word, bool(told)), (Loose, "loose", False))
            self.assertIn((fractions_of(told.q), fractions_of(told.image)), loose)
            return told
        self.assertEqual(told, Hinged(own.rows()))
        self.assertEqual((told.word, bool(told)), ("hinged", True))
        self.check_facts(told, at, turn)
        return told

    def check_facts(self, told, at, turn):
        """For each word as many of both kinds, but for that of the spot's fence; the sums tell so, too."""
        kinds = {}
        for row in told.rows:
            kinds.setdefault(row[0], []).append(row[4])
        own = (at[0], at[0])
        for word in kinds:
            self.assertEqual(sum(kinds[word]), 0 if word != own else 1 if fraction(turn[1]) > 0 else -1)
        self.assertEqual(len(kinds[own]) % 2, 1)
        self.assertEqual(hinge_sums(told), tuple((word, len(kinds[word]), sum(kinds[word])) for word in sorted(kinds)))

    def test_spots_and_turns(self):
        words = {}
        for lot in LOTS:
            for at in lot.sides:
                for turn in TURNS if len(lot.sides) < 7 else TURNS[:4]:
                    for share in ((1, 2), (1, 5)):
                        with self.subTest(lot=[fence.corners for fence in lot.fences], at=at, turn=turn, share=share):
                            told = self.check(lot, at, share, turn)
                            words[told.word] = words.get(told.word, 0) + 1
        self.assertGreater(min(words["hinged"], words["loose"]), 80)

    def test_there_and_back(self):
        for lot in (lot_of(DENT), lot_of(LARGE, TRI)):
            for at in lot.sides:
                for turn in ((0, 1), ((1, 2), (-1, 3)), (-3, 2)):
                    told = judged_hinges(lot, at, (3, 7), turn)
                    a, b = map(fraction, turn)
                    back = self.check(lot, at, (3, 7), (pair(a / (a * a + b * b)), pair(-b / (a * a + b * b))))
                    self.assertEqual(told.word, back.word)
                    if told:
                        rows = [(word[::-1], sides[::-1], image, q, -kind) for word, sides, q, image, kind in told.rows]
                        self.assertEqual(back.rows, tuple(sorted(rows)))

    def test_frames(self):
        # With p0 at the spot p1 is a hinge for (0, ratio), and p3 its image.
        for lot in (lot_of(TRI), lot_of(KITE), lot_of(*RING)):
            for ratio in (1, 2, (2, 3)):
                for word, four, posts, kind in judged(lot, ratio).rows:
                    start, end = [fractions_of(point) for point in lot.side(four[0])]
                    way = minus(end, start)
                    share = pair(dot(minus(fractions_of(posts[0]), start), way) / dot(way, way))
                    told = self.check(lot, four[0], share, (0, ratio))
                    if told:
                        self.assertIn(((word[1], word[3]), (four[1], four[3]), posts[1], posts[3]), [row[:4] for row in told.rows])

    def test_loose_ones(self):
        tent, box = lot_of(TRI), lot_of(cell(0, 0))
        # A corner turned about (1, 0) is a corner, too.
        self.assertEqual(self.check(tent, (0, 0), (1, 4), (0, 1)), Loose(((4, 1), (0, 1)), ((1, 1), (3, 1))))
        # The hinge alone is a corner, (4, 0), its image is (4, 2); and the other way round.
        own = OwnHinges(box, (0, 0), (1, 2), (1, 1)).loose()
        self.assertEqual((((4, 0), (4, 2)) in own, ((4, 2), (4, 0)) in own), (True, False))
        own = OwnHinges(box, (0, 0), (1, 2), ((1, 2), (-1, 2))).loose()
        self.assertEqual((((4, 0), (4, 2)) in own, ((4, 2), (4, 0)) in own), (False, True))
        for turn in ((1, 1), ((1, 2), (-1, 2))):
            self.assertEqual(self.check(box, (0, 0), (1, 2), turn).word, "loose")
        self.assertEqual(self.check(box, (0, 0), (1, 2), (0, 1)).word, "hinged")

    def test_a_stretch_in_common(self):
        # The left side of the oblong, a quarter to the right about (1, 0), lies on its upper side from (1, 1) to (2, 1).
        oblong = ((0, 0), (4, 0), (4, 1), (0, 1))
        for row in (oblong, oblong[1:] + oblong[:1], ((-1, 0), (4, 0), (4, 1), (-1, 1))):
            lot = lot_of(row)
            for at in lot.sides:
                for share in ((1, 4), (2, 5), (1, 2)):
                    for turn in ((0, -1), (0, 1)):
                        self.check(lot, at, share, turn)
        told = self.check(lot_of(oblong), (0, 0), (1, 4), (0, -1))
        self.assertEqual(told.word, "loose")
        # Images of sides in line with sides, and nothing in common.
        lot = lot_of(((0, 0), (4, 0), (4, 9), (0, 1)))
        self.assertEqual(self.check(lot, (0, 0), (1, 4), (0, (1, 2))).word, "hinged")

    def test_the_spot_is_no_hinge(self):
        for lot in LOTS:
            for at in lot.sides[:3]:
                told = judged_hinges(lot, at, (5, 11), (1, 1))
                if told:
                    self.assertNotIn(spot_of(lot, at, (5, 11)), [row[2] for row in told.rows] + [row[3] for row in told.rows])

    def test_40_sides_and_41(self):
        for rows in ((star(40, 9),), (star(20, 60, seed=4), star(20, 9))):
            lot = lot_of(*rows)
            for at in (lot.sides[0], lot.sides[-1]):
                self.check(lot, at, (10 ** 29 + 1, 10 ** 30), ((10 ** 29 + 1, 10 ** 30), (10 ** 29 - 7, 10 ** 30 - 3)))
        large = lot_of(star(21, 60, seed=4), star(20, 9))
        self.check_raises(TooMany, {"what": "sides", "most": 40}, judged_hinges, large, (0, 0), (1, 2), (0, 1))

    def test_papers(self):
        told = judged_hinges(lot_of(TRI), (0, 0), (1, 2), (0, (1, 2)))
        self.assertEqual((told.parts, isinstance(told, Paper), isinstance(told, Denial)), ((told.rows,), True, False))
        self.assertEqual(Hinged(rows=in_lists(told.rows)), told)
        loose = Loose(image=[2], q=[[1]])
        self.assertEqual((loose.word, loose.parts, loose.q, loose.image, bool(loose)), ("loose", (((1,),), (2,)), ((1,),), (2,), False))
        self.assertIsInstance(loose, Denial)

    def test_errors(self):
        large = lot_of(star(21, 60, seed=4), star(20, 9))
        for bad in NO_LOTS:
            self.check_part(BadLot, "lot", judged_hinges, bad, None, None, None)
        for bad in NO_POINTS + ((0, 21), (1, 20), (2, 0)):
            self.check_part(BadSides, "at", judged_hinges, large, bad, None, None)
        for bad in NO_NUMBERS + (0, 1, -1, 2, (0, 1), (1, 1)):
            self.check_part(BadNumber, "share", judged_hinges, large, (1, 19), bad, None)
        for bad in NO_POINTS + ((0, 0), (1, 0), (0, (0, 1)), [(1, 2), 0], (1, (2, 4))):
            self.check_part(BadNumber, "turn", judged_hinges, large, (1, 19), (1, 2), bad)


class HingeSumsTest(Raises, unittest.TestCase):
    def test_sums(self):
        rows = [((0, 1), None, 0, "", 1), [[1, 0], 2, [], {}, -1], ((0, 1), True, (), 3, 1), [(0, 0), 0, 0, 0, -1], ((0, 10), 1, 2, 3, -1)]
        self.assertEqual(hinge_sums(Hinged(rows)), (((0, 0), 1, -1), ((0, 1), 2, 2), ((0, 10), 1, -1), ((1, 0), 1, -1)))
        self.assertEqual(hinge_sums(hinged=Hinged(in_lists(tuple(rows)))), hinge_sums(Hinged(rows)))
        self.assertEqual(hinge_sums(Hinged([])), ())

    def test_no_papers(self):
        good = judged_hinges(lot_of(TRI), (0, 0), (1, 2), (0, (1, 2)))

        class Other(Hinged):
            pass

        for bad in (None, True, 0, "", good.rows, (), [], Paper("hinged", good.rows), Other(good.rows), Hinged, Loose(0, 0), Denial("hinged", ()),
                    Fence(TRI), object()):
            self.check_part(BadPaper, "hinged", hinge_sums, bad)

    def test_bad_rows(self):
        good = ((0, 0), ((0, 1), (0, 0)), 0, 0, 1)
        self.assertEqual(hinge_sums(Hinged([good])), (((0, 0), 1, 1),))
        bad_rows = [None, 0, True, "", "abcde", {}, {0: 0, 1: 1, 2: 2, 3: 3, 4: 1}, object(), (), good[:4], good + (1,), range(5)]
        bad_rows += [(word,) + good[1:] for word in (None, 0, "00", (0,), (0, 0, 0), (), (0, -1), (-1, 0), (True, 0), (0, False), (0, 0.0),
                                                     ("0", "0"), ((0, 1), (0, 1)), {0, 1}, {0: 0, 1: 0}, range(2))]
        bad_rows += [good[:4] + (kind,) for kind in (None, True, False, 0, 2, -2, 1.0, "1", (1, 1), (1,), (), object())]
        for bad in bad_rows:
            for rows in ([bad], [good, bad], [bad, good]):
                self.check_part(BadPaper, "hinged", hinge_sums, Hinged(rows))
        for bad in (None, True, 0, 1, "", "abc", {}, {0: good}, object(), good, Fraction(1, 2)):
            self.check_part(BadPaper, "hinged", hinge_sums, Hinged(bad))


if __name__ == "__main__":
    unittest.main()

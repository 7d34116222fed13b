import itertools
import random
import time
import unittest

from oddsquares.check_fours import shows_four
from oddsquares.errors import BadLot, BadRatio, BadSides
from oddsquares.fences import Fence
from oddsquares.fours import Askew, Many, Off, One, Tiny, determinant, on_four
from oddsquares.lots import Lot
from tests.shapes import DENT, KITE, STRAIGHT, TRI, cell, comb, cross, dot, minus, on_side, star
from tests.values import NO_RATIOS, Raises, fraction, fractions_of, in_lists, pair

RAYS = ((14, 0), (18, 0), (14, 14), (10, 10), (0, 10), (0, 6), (3, -3), (5, -5))
NO_LOTS = (None, True, 0, "", [], [Fence(TRI)], Fence(TRI), TRI, object())


def lot_of(*rows):
    return Lot([Fence(row) for row in rows])


def sides_on(lot, four):
    return [tuple(fractions_of(point) for point in lot.side(at)) for at in four]


def told_determinant(sides, ratio):
    """The determinant by the formula of the document."""
    a, b, c, d = [minus(end, start) for start, end in sides]
    r = fraction(ratio)
    return -r * r * dot(a, c) * dot(b, d) - (cross(b, c) - r * dot(b, c)) * (cross(a, d) + r * dot(a, d))


def is_told_frame(posts, ratio):
    """Whether posts of fractions are a frame of the ratio."""
    p0, p1, p2, p3 = posts
    v = minus(p1, p0)
    return v != (0, 0) and minus(p3, p0) == (-fraction(ratio) * v[1], fraction(ratio) * v[0]) and minus(p2, p3) == v


def conditions(sides, ratio):
    """All that must be at least 0 for (x, y, v) to stand on the sides: rows of factors of x, y, vx, vy and 1."""
    r = fraction(ratio)
    places = [((1, 0, 0, 0), (0, 1, 0, 0)), ((1, 0, 1, 0), (0, 1, 0, 1)), ((1, 0, 1, -r), (0, 1, r, 1)), ((1, 0, 0, -r), (0, 1, r, 0))]
    equal, above = [], []
    for (start, end), (x, y) in zip(sides, places):
        way = minus(end, start)
        line = [way[0] * q - way[1] * p for p, q in zip(x, y)] + [-cross(way, start)]
        along = [way[0] * p + way[1] * q for p, q in zip(x, y)] + [-dot(way, start)]
        equal.append(line)
        above.append(along)
        above.append([-value for value in along[:4]] + [dot(way, way) - along[4]])
    return equal, above


def free_of(equal, above):
    """The conditions with as many unknowns less as the equations tell; None if these can't be."""
    equal, above = [list(row) for row in equal], [list(row) for row in above]
    many = 4
    while equal:
        row = equal.pop()
        if not any(row[:many]):
            if row[many] != 0:
                return None
            continue
        at = next(k for k in range(many) if row[k] != 0)
        for rows in (equal, above):
            for k, other in enumerate(rows):
                rest = [value - other[at] / row[at] * part for value, part in zip(other, row)]
                rows[k] = rest[:at] + rest[at + 1:]
        many -= 1
    return above


def range_of(above):
    """The least and the greatest value of the one unknown, or None if there is none."""
    low, high = None, None
    for factor, rest in above:
        if factor == 0:
            if rest < 0:
                return None
        elif factor > 0:
            low = -rest / factor if low is None else max(low, -rest / factor)
        else:
            high = -rest / factor if high is None else min(high, -rest / factor)
    return None if low > high else (low, high)


def how_many(sides, ratio):
    """0, 1 or 2 for none, one or endlessly many rows of posts on the sides, by elimination."""
    above = free_of(*conditions(sides, ratio))
    if above is None:
        return 0
    if len(above[0]) == 1:
        return int(all(row[0] >= 0 for row in above))
    if len(above[0]) == 2:
        told = range_of(above)
        return 0 if told is None else 1 + (told[0] < told[1])
    first = range_of(without_last(above))
    if first is None or first[0] < first[1]:
        return 0 if first is None else 2
    second = range_of([[row[1], row[2] + row[0] * first[0]] for row in above])
    return 1 + (second[0] < second[1])


def without_last(above):
    """The conditions of the first of two unknowns, led by Fourier's and Motzkin's way."""
    rows = [[row[0], row[2]] for row in above if row[1] == 0]
    for one, other in itertools.product([row for row in above if row[1] > 0], [row for row in above if row[1] < 0]):
        rows.append([-one[k] * other[1] + other[k] * one[1] for k in (0, 2)])
    return rows


class FoursTest(Raises, unittest.TestCase):
    def check_four(self, lot, four, ratio):
        sides = sides_on(lot, four)
        size = told_determinant(sides, ratio)
        self.assertEqual(determinant(lot, four, ratio), pair(size))
        told = on_four(lot, four, ratio)
        if size != 0:
            self.check_one_row(told, sides, ratio)
        else:
            self.check_endless(told, four, sides, ratio)
        self.assertIs(shows_four(lot, four, ratio, told), True)
        return told

    def check_one_row(self, told, sides, ratio):
        if told.word == "tiny":
            point = fractions_of(told.point)
            self.assertTrue(all(cross(minus(end, start), minus(point, start)) == 0 for start, end in sides))
            return
        posts = [fractions_of(post) for post in told.posts]
        self.assertTrue(is_told_frame(posts, ratio))
        off = [k for k in range(4) if not on_side(posts[k], sides[k])]
        self.assertEqual((told.word, told.parts[1:]), ("off", (off[0],)) if off else ("one", ()))
        for post, (start, end) in zip(posts, sides):
            self.assertEqual(cross(minus(end, start), minus(post, start)), 0)

    def check_endless(self, told, four, sides, ratio):
        self.assertIn(told.word, ("askew", "one", "many"))
        for posts in told.parts:
            points = [fractions_of(post) for post in posts]
            self.assertTrue(is_told_frame(points, ratio))
            self.assertTrue(all(on_side(point, side) for point, side in zip(points, sides)))
        # One point four times is on the sides if they are one side or two neighbours, on which no frame stands.
        if told.word == "askew" and how_many(sides, ratio) > 0:
            self.assertLessEqual(len(set(four)), 2)
            self.assertTrue(set.intersection(*[set(side) for side in sides]) or len(set(four)) == 1)
        else:
            self.assertEqual(len(told.parts), how_many(sides, ratio))
        if told.word == "many":
            self.assertEqual(len({told.one[k:] + told.one[:k] for k in range(4)} | {told.other}), 5)

    def test_each_four_of_small_lots(self):
        seen = set()
        for rows, ratios in (((TRI,), (1, (1, 2))), ((cell(0, 0),), (1, 2)), ((KITE,), (1,)), ((STRAIGHT,), (1, 3)), ((DENT,), (1,)),
                             ((((0, 0), (4, 0), (0, 4)),), (1, 2, (3, 2))), ((((0, 0), (8, 0), (8, 4), (0, 4)),), (1, 2, (1, 2)))):
            lot = lot_of(*rows)
            for four in itertools.product(lot.sides, repeat=4):
                for ratio in ratios:
                    seen.add((self.check_four(lot, four, ratio).word, determinant(lot, four, ratio) == (0, 1)))
        self.assertEqual(seen, {("tiny", False), ("off", False), ("one", False), ("askew", True), ("one", True), ("many", True)})

    def test_some_fours_of_greater_lots(self):
        chance = random.Random(6)
        seen = set()
        for rows in ((RAYS,), (cell(0, 0), cell(9, 0)), (cell(0, 0, 12), cell(3, 3, 5)), (comb(3),),
                     (cell(0, 0), cell(2, 6, 3), ((9, 0), (12, 0), (9, 3)))):
            lot = lot_of(*rows)
            for run in range(250):
                four = [chance.choice(lot.sides) for _ in range(4)]
                seen.add(self.check_four(lot, four, chance.choice((1, 1, 2, (1, 2), (3, 4)))).word)
        self.assertLessEqual({"off", "askew", "many"}, seen)

    def test_a_whole_patch(self):
        lot = lot_of(RAYS)
        four = [(0, 0), (0, 2), (0, 4), (0, 6)]
        self.assertEqual(self.check_four(lot, four, 1).word, "many")
        self.assertEqual(self.check_four(lot, four[1:] + four[:1], 1).word, "many")
        # At any other ratio the only row is where the four lines meet.
        self.assertEqual(self.check_four(lot, four, 2), Tiny(((0, 1), (0, 1))))

    def test_parts_of_a_patch(self):
        # The squares of the patch are (x, 0), (y, y), (0, 2y - x), (x - y, y - x); the sides leave many, one or none.
        seen = set()
        for far, near, up, down in itertools.product((16, 18), (9, 10), (0, 2, 4, 7), (4, 6, 8, 9)):
            lot = lot_of(((14, 0), (far, 0), (14, 14), (near, near), (0, up), (0, -2), (3, -3), (down, -down)))
            four = [(0, 0), (0, 2), (0, 4), (0, 6)]
            for turn in range(4):
                seen.add(self.check_four(lot, four[turn:] + four[:turn], 1).word)
        self.assertEqual(seen, {"many", "one", "askew"})

    def test_facts(self):
        lot = lot_of(KITE, ((9, 1), (15, 2), (10, 7)))
        chance = random.Random(2)
        for run in range(60):
            a, b, c, d = [chance.choice(lot.sides) for _ in range(4)]
            for ratio in (1, 2, (2, 3)):
                size = fraction(determinant(lot, (a, b, c, d), ratio))
                self.assertEqual(fraction(determinant(lot, (c, d, a, b), ratio)), size)
                turned = determinant(lot, (b, c, d, a), pair(1 / fraction(ratio)))
                self.assertEqual(fraction(turned), -size / fraction(ratio) ** 2)

    def test_one_frame_with_determinant_0(self):
        lot = lot_of(cell(0, 0))
        told = on_four(lot, [(0, 0), (0, 0), (0, 2), (0, 2)], 1)
        self.assertEqual(told, One((((0, 1), (0, 1)), ((4, 1), (0, 1)), ((4, 1), (4, 1)), ((0, 1), (4, 1)))))
        self.assertEqual(on_four(lot, [(0, 0), (0, 0), (0, 2), (0, 2)], 2).word, "many")
        self.assertEqual(on_four(lot, [(0, 0), (0, 0), (0, 2), (0, 2)], (1, 2)), Askew())

    def test_sides_alike(self):
        lot = lot_of(KITE)
        for at in lot.sides:
            self.assertEqual(on_four(lot, [at] * 4, 1), Askew())
            self.assertEqual(determinant(lot, [at] * 4, 1), (0, 1))
            other = (0, (at[1] + 1) % 4)
            for four in itertools.product((at, other), repeat=4):
                self.assertFalse(on_four(lot, four, 1))

    def test_lists_names_and_copies(self):
        lot = lot_of(RAYS)
        four = [[0, 0], [0, 2], [0, 4], [0, 6]]
        told = on_four(lot, four, [1, 1])
        four[0][1] = 5
        self.assertEqual(told, on_four(lot=lot, four=((0, 0), (0, 2), (0, 4), (0, 6)), ratio=1))
        self.assertEqual(told.parts, (told.one, told.other))
        self.assertEqual(determinant(lot=lot, four=[[0, 0]] * 4, ratio=[1, 2]), (0, 1))
        for posts in told.parts:
            self.assertEqual(in_lists(posts), [[list(pair(fraction(part))) for part in point] for point in posts])

    def test_errors(self):
        lot = lot_of(KITE, cell(9, 9))
        good = [(0, 0), (0, 1), (1, 2), (1, 3)]
        for call in (determinant, on_four):
            for bad in NO_LOTS:
                self.check_part(BadLot, "lot", call, bad, None, None)
            for bad in (None, True, 0, "0000", [], good[:3], good + good[:1], {at: 1 for at in good}, object(), (0, 1, 2, 3)):
                self.check_part(BadSides, "four", call, lot, bad, None)
            for bad in (None, True, 0, (0, 4), (2, 0), (-1, 0), (0, -1), (True, 0), (0, True), (0,), (0, 0, 0), "00", (0.0, 1)):
                for place in range(4):
                    self.check_part(BadSides, "four", call, lot, good[:place] + [bad] + good[place + 1:], 0)
            for bad in NO_RATIOS:
                self.check_part(BadRatio, "ratio", call, lot, good, bad)

    def test_great_numbers_in_a_short_time(self):
        lot = lot_of(*[star(10, 10, (25 * k, 3 * k), k) for k in range(6)])
        ratio = (10 ** 29 + 1, 10 ** 29 + 33)
        chance = random.Random(1)
        start = time.perf_counter()
        for run in range(20):
            self.check_four(lot, [chance.choice(lot.sides) for _ in range(4)], ratio)
        far = 10 ** 29 + 7
        box = lot_of(((0, 0), (far, 0), (far, far), (0, far)))
        self.assertEqual(self.check_four(box, box.sides, 1).word, "many")
        self.assertLess(time.perf_counter() - start, 20)

    def test_papers(self):
        self.assertIsInstance(on_four(lot_of(TRI), [(0, 0), (0, 0), (0, 1), (0, 2)], 1), One)
        self.assertIsInstance(on_four(lot_of(TRI), [(0, 0), (0, 0), (0, 0), (0, 2)], 1), Tiny)
        self.assertIsInstance(on_four(lot_of(((0, 0), (4, 0), (5, 1))), [(0, 0), (0, 0), (0, 1), (0, 2)], 1), Off)
        self.assertIsInstance(on_four(lot_of(cell(0, 0)), [(0, 0), (0, 1), (0, 2), (0, 3)], 1), Many)


if __name__ == "__main__":
    unittest.main()

import itertools
import random
import unittest
from fractions import Fraction

from oddsquares.ears import cut
from oddsquares.errors import BadFilm, BadNumber, BadRatio, BadSides, NoFence, NoFilm, NoLot, TooMany
from oddsquares.fences import Fence
from oddsquares.films import Film, sign_on
from oddsquares.fours import determinant
from oddsquares.lots import Lot
from tests.oracles import SlowFilm, pairs_of
from tests.shapes import DENT, KITE, TRI, cell, comb, nested, star
from tests.told import (BENT_EAR, DART, EAR, GROWN, LARGE, MOVED, PASSING, RING, SAFE, SPUR, THROUGH, UNSAFE, WITHIN, lot_of, made,
                        moved, still)
from tests.values import NO_NUMBERS, NO_POINTS, NO_RATIOS, Raises, fraction, fractions_of, in_lists, pair

NO_FILMS = (None, True, 0, "", [], ([TRI], [TRI]), Fence(TRI), Lot([Fence(TRI)]), Film, object())
NO_MOMENTS = NO_NUMBERS + (-1, 2, (-1, 10 ** 30), (10 ** 30 + 1, 10 ** 30))
MOMENTS = (0, 1, (0, 1), [1, 1], (1, 2), [1, 3], (1, 10 ** 30), (10 ** 30 - 1, 10 ** 30))
# Corners of a row: side 3, the last one, is a point side; corner 3 is left out.
BACK_AT_0 = ((0, 0), (4, 0), (1, 3), (0, 0))
OPEN = ((1, 0), (4, 0), (1, 3), ((1, 3), 1))


def no_sides(film):
    many = len(film.first)
    return (None, True, 0, "00", (), (0,), (0, 0, 0), (many, 0), (-1, 0), (0, -1), (0, len(film.first[0])), (True, 0),
            (0, False), (0, 0.0), (0, (0, 1)), {0: 1, 1: 2}, object(), ((0, 0), (0, 1)))


def integers(*rows):
    """The rows of corners as they are returned."""
    return tuple(pairs_of([fractions_of(point) for point in row]) for row in rows)


class MakingTest(Raises, unittest.TestCase):
    def check_no_film(self, word, fence, side, first, last):
        for rows in ((first, last), (in_lists(tuple(first)), in_lists(tuple(last)))):
            self.check_raises(NoFilm, {"word": word, "fence": fence, "side": side}, Film, *rows)

    def test_attributes(self):
        for first, last in (([TRI], [TRI]), ([KITE, moved(TRI, 9, 1)], [KITE, moved(TRI, 10, (1, 2))]), ([BACK_AT_0], [OPEN])):
            for film in (Film(first, last), Film(last=in_lists(tuple(last)), first=tuple(in_lists(tuple(first))))):
                self.assertEqual(film.first, integers(*first))
                self.assertEqual(film.last, integers(*last))
                self.assertEqual(film.sides, tuple((fence, k) for fence, row in enumerate(first) for k in range(len(row))))

    def test_equal(self):
        self.assertEqual(EAR, Film(EAR.first, EAR.last))
        self.assertEqual(Film([TRI], [TRI]), Film([integers(TRI)[0]], in_lists(integers(TRI))))
        self.assertNotEqual(EAR, EAR.backward())
        self.assertNotEqual(Film([TRI], [TRI]), Film([TRI], [moved(TRI, 0, 1)]))
        self.assertNotEqual(Film([TRI], [TRI]), Film([moved(TRI, 0, 1)], [TRI]))
        for other in (None, 0, (EAR.first, EAR.last), Fence(TRI), lot_of(TRI)):
            self.assertIs(EAR == other, False)
            self.assertIs(EAR != other, True)

    def test_what_is_changed_later(self):
        first, last = in_lists(integers(TRI)), in_lists(integers(moved(TRI, 1, 1)))
        film = Film(first, last)
        first[0][0][0] = last[0][1] = None
        first[0].append(1)
        last.clear()
        self.assertEqual(film, Film([TRI], [moved(TRI, 1, 1)]))

    def test_bad_first(self):
        seven = [cell(9 * k, 0) for k in range(7)]
        rows = [None, True, 0, "abc", (), [], {}, object(), Fence(TRI), lot_of(TRI), TRI, [None], [TRI, None], [Fence(TRI)], [TRI[:2]],
                [()], {0: TRI}, iter([TRI]), seven, ["abc"], [star(41, 9)], [TRI, star(41, 9)]]
        for bad in rows + [[[bad, *TRI]] for bad in NO_POINTS]:
            self.check_part(BadFilm, "first", Film, bad, None)
        self.assertEqual(len(Film([cell(9 * k, 0) for k in range(6)], [cell(9 * k, 0) for k in range(6)]).first), 6)
        self.assertEqual(len(Film([star(40, 9)], [star(40, 9)]).sides), 40)

    def test_bad_last(self):
        rows = [None, True, 0, "abc", (), [], {}, object(), [KITE], [TRI[:2]], [TRI, TRI], TRI, [None], {0: TRI}, iter([TRI]), ["abc"],
                [Fence(TRI)]]
        for bad in rows + [[[bad, *TRI[:2]]] for bad in NO_POINTS]:
            self.check_part(BadFilm, "last", Film, [TRI], bad)
        self.check_part(BadFilm, "last", Film, [TRI, cell(9, 0)], [cell(9, 0), TRI])
        # A row that makes no fence is none of these.
        self.check_part(BadFilm, "last", Film, [((0, 0), (0, 0), (0, 0))], [KITE])

    def test_60_sides_and_61(self):
        rows = [star(20, 9, (30 * k, 0), k) for k in range(3)]
        self.assertEqual(len(still(*rows).sides), 60)
        rows[0] = star(21, 9)
        self.check_raises(TooMany, {"what": "sides", "most": 60}, Film, rows, rows)
        point = [[(0, 0)] * 31, [(0, 0)] * 30]
        self.check_raises(TooMany, {"what": "sides", "most": 60}, Film, point, point)
        self.check_part(BadFilm, "last", Film, point, [[(0, 0)] * 30, [(0, 0)] * 31])

    def test_point(self):
        self.check_no_film("point", 0, 1, [((0, 0), (4, 0), (4, 0), (1, 3))], [((0, 0), (4, 0), (4, 0), (1, 3))])
        self.check_no_film("point", 0, 3, [BACK_AT_0], [BACK_AT_0])
        self.check_no_film("point", 1, 0, [TRI, ((9, 0), (9, 0), (12, 0), (9, 5))], [TRI, ((9, 1), (9, 1), (12, 1), (9, 6))])

    def test_turn(self):
        self.check_no_film("turn", 0, 1, [TRI], [((0, 0), (4, 0), (1, 4))])
        self.check_no_film("turn", 0, 0, [TRI], [((0, 0), (-4, 0), (-1, -3))])
        self.check_no_film("turn", 0, 2, [KITE], [((0, 0), (4, 0), (3, 2), (0, 4))])
        self.check_no_film("turn", 1, 0, [TRI, moved(TRI, 9, 0)], [TRI, moved(TRI, 9, 0, -1)])

    def test_row(self):
        self.check_no_film("row", 0, 1, [((0, 0), (4, 0), (4, 4), (0, 4), (0, 2))], [((0, 0), (4, 0), (4, 0), (4, 0), (0, 0))])
        self.check_no_film("row", 0, 0, [((0, 0), (0, 0), (0, 0), (4, 0), (1, 3))], [((0, 0), (1, 0), (2, 1), (7, 1), (4, 4))])
        # The last side and side 0.
        self.check_no_film("row", 0, 4, [((0, 0), (-1, 0), (2, 1), (1, 4), (0, 2))], [((0, 0), (0, 0), (3, 1), (2, 4), (0, 0))])
        self.check_no_film("row", 1, 0, [TRI, moved(TRI, 9, 0)], [TRI, [(9, 0)] * 3])
        # One at 0, the next one at 1.
        self.assertIsNotNone(made(SPUR.first, SPUR.last))

    def test_the_least_side_first(self):
        # Side 0 turns, side 1 has no length at both.
        self.check_no_film("turn", 0, 0, [((0, 0), (4, 0), (4, 0), (1, 3))], [((0, 0), (-4, 0), (-4, 0), (1, 3))])
        self.check_no_film("point", 0, 1, [((0, 0), (4, 0), (4, 0), (1, 3))], [((0, 0), (4, 0), (4, 0), (1, -3))])
        # Side 0 and 1 are a row, side 3 turns.
        self.check_no_film("row", 0, 0, [((0, 0), (0, 0), (0, 0), (4, 0), (1, 3))], [((0, 0), (1, 0), (2, 1), (7, 1), (4, -4))])
        # The first fence crosses itself, the second one turns.
        crossed = ((0, 0), (4, 0), (0, 3), (4, 3))
        self.check_no_film("turn", 1, 2, [crossed, moved(TRI, 9, 0)], [crossed, ((9, 0), (13, 0), (11, 2))])

    def test_first_and_last(self):
        crossed = ((0, 0), (4, 0), (0, 3), (4, 3))
        self.check_no_film("first", 0, 0, [crossed], [crossed])
        self.check_no_film("first", 0, 0, [TRI[::-1]], [TRI[::-1]])
        self.check_no_film("first", 0, 0, [TRI, TRI], [TRI, moved(TRI, 9, 0)])
        self.check_no_film("last", 0, 0, [TRI, moved(TRI, 9, 0)], [TRI, TRI])
        self.check_no_film("last", 0, 0, [LARGE, TRI], [LARGE, moved(TRI, 0, 0, 10)])
        # Two sides without length, but not side by side, leave two corners, and one leaves two of three.
        self.check_no_film("last", 0, 0, [((0, 0), (4, 0), (4, 4), (0, 4))], [((0, 0), (4, 0), (4, 0), (0, 0))])
        self.check_no_film("first", 0, 0, [((0, 0), (4, 0), (4, 0), (0, 0))], [((0, 0), (4, 0), (4, 4), (0, 4))])
        # Where corners fell together the sides go straight back: the denial tells corner 1.
        self.check_no_film("last", 0, 0, [((0, 0), (4, 0), (4, 1), (2, 1), (2, 2))], [((0, 0), (4, 0), (4, 0), (2, 0), (2, 2))])
        # A corner comes to lie on a side.
        dent = ((0, 0), (9, 0), (9, 9), (5, 2), (1, 9))
        self.check_no_film("last", 0, 0, [dent], [((0, 0), (9, 0), (9, 7), (5, 0), ((35, 43), (315, 43)))])

    def test_right_hand_round_at_one_moment(self):
        # All sides keep their directions where two sides have opposite ones and the others none at one moment.
        for first, last in itertools.product((TRI, TRI[::-1]), repeat=2):
            film = made([first], [last])
            self.assertEqual(film is not None, first == last == TRI)

    def test_point_sides_beside_each_other_at_unlike_moments(self):
        film = Film(SPUR.first, SPUR.last)
        self.assertEqual([film.placed((0, k), 0) for k in range(7)], [(0, 0), (0, 1), None, (0, 2), (0, 3), (0, 4), (0, 5)])
        self.assertEqual([film.placed((0, k), 1) for k in range(7)], [(0, 0), (0, 1), (0, 2), None, (0, 3), (0, 4), (0, 5)])


def told_once(row):
    """The corners of a row of fractions, those that fell together told once, as the document says it."""
    many = len(row)
    left_out = set()
    for k in range(many):
        if row[k] == row[(k + 1) % many]:
            left_out.add(k if k == many - 1 else k + 1)
    return [corner for k, corner in enumerate(row) if k not in left_out]


class UsingTest(Raises, unittest.TestCase):
    def check_moment(self, film, moment):
        slow = SlowFilm(film)
        when = fraction(moment) if not isinstance(moment, list) else fraction(tuple(moment))
        rows = []
        for fence, row in enumerate(film.first):
            sides = [slow.side((fence, k), when) for k in range(len(row))]
            for k, side in enumerate(sides):
                self.assertEqual(film.side((fence, k), moment), pairs_of(side))
                ahead = sum(start != end for start, end in sides[:k])
                self.assertEqual(film.placed((fence, k), moment), None if side[0] == side[1] else (fence, ahead))
            rows.append(told_once([start for start, end in sides]))
        return rows

    def test_moments(self):
        for film in SAFE:
            for moment in MOMENTS:
                rows = self.check_moment(film, moment)
                lot = film.at(moment)
                self.assertEqual(lot, Lot([Fence(pairs_of(row)) for row in rows]))
                self.assertEqual([fence.corners for fence in lot.fences], [pairs_of(row) for row in rows])
                # Sides that have length are the sides of the lot that placed tells.
                for at in film.sides:
                    if film.placed(at, moment) is not None:
                        self.assertEqual(lot.side(film.placed(at, moment)), film.side(at, moment))
        for film in UNSAFE:
            for moment in MOMENTS:
                self.check_moment(film, moment)

    def test_corners_that_fell_together(self):
        self.assertEqual(EAR.at(0), lot_of(KITE))
        self.assertEqual(EAR.at(1), cut(lot_of(KITE), 0, 2))
        film = Film([BACK_AT_0], [OPEN])
        self.assertEqual(film.at(0).fences[0].corners, integers(TRI)[0])
        self.assertEqual([film.placed((0, k), 0) for k in range(4)], [(0, 0), (0, 1), (0, 2), None])
        self.assertEqual(film.backward().at(1), lot_of(TRI))
        # Side 0 is a point side: corner 0 stays, corner 1 is left out.
        film = Film([((0, 0), (0, 0), (4, 0), (1, 3))], [(((1, 3), 1), (1, 0), (4, 0), (1, 3))])
        self.assertEqual(film.at(0), lot_of(TRI))
        self.assertEqual([film.placed((0, k), 0) for k in range(4)], [None, (0, 0), (0, 1), (0, 2)])
        # The side ahead of the last one.
        film = Film([((0, 0), (4, 0), (1, 3), (1, 3))], [((0, 0), (4, 0), (2, 2), ((2, 3), 2))])
        self.assertEqual(film.at(0), lot_of(TRI))
        self.assertEqual([film.placed((0, k), 0) for k in range(4)], [(0, 0), (0, 1), None, (0, 2)])

    def test_direction(self):
        for film in SAFE + UNSAFE:
            slow = SlowFilm(film)
            for at in film.sides:
                told = pairs_of([slow.sides[at][2]])[0]
                self.assertEqual(film.direction(at), told)
                self.assertEqual(film.direction(at=list(at)), told)

    def test_backward_and_parts(self):
        for film in SAFE + UNSAFE:
            back = film.backward()
            self.assertEqual((back.first, back.last), (film.last, film.first))
            self.assertEqual(back.backward(), film)
            for moment in (0, 1, (1, 3)):
                for at in film.sides:
                    other = pair(1 - fraction(moment))
                    self.assertEqual(back.side(at, other), film.side(at, moment))
        for film in SAFE:
            for start, stop in ((0, 1), ((1, 3), (1, 2)), (0, (1, 7)), ([1, 2], 1)):
                part = film.part(start=start, stop=stop)
                self.assertEqual(film.part(start, stop), part)
                self.assertEqual((part.at(0), part.at(1)), (film.at(start), film.at(stop)))
                middle = pair((fraction(tuple(start) if isinstance(start, list) else start) + fraction(stop)) / 2)
                self.assertEqual(part.at((1, 2)), film.at(middle))

    def test_arguments_by_name(self):
        self.assertEqual(EAR.side(moment=1, at=[0, 2]), EAR.side((0, 2), 1))
        self.assertEqual(EAR.at(moment=(1, 2)), EAR.at((1, 2)))
        self.assertEqual(EAR.placed(moment=1, at=(0, 2)), (0, 1))

    def test_fences_that_cross_on_the_way(self):
        self.check_at(THROUGH, (1, 2), NoLot, "cross")
        self.check_at(PASSING, (1, 2), NoLot, "cross")
        self.check_at(SPUR, (1, 2), NoFence, "back")
        # Two fences that both make none: the first one is told.
        both = Film([SPUR.first[0], moved(SPUR.first[0], 20, 0)], [SPUR.last[0], moved(SPUR.last[0], 20, 0)])
        self.check_at(both, (1, 2), NoFence, "back")
        # Fences are made ahead of the lot.
        mixed = Film([*THROUGH.first, moved(SPUR.first[0], 20, 0)], [*THROUGH.last, moved(SPUR.last[0], 20, 0)])
        self.check_at(mixed, (1, 2), NoFence, "back")
        self.assertEqual(len(THROUGH.at(0)), 2)
        self.check_raises(NoFilm, {"word": "first", "fence": 0, "side": 0}, THROUGH.part, (1, 2), 1)
        self.check_raises(NoFilm, {"word": "last", "fence": 0, "side": 0}, THROUGH.part, 0, (1, 2))

    def check_at(self, film, moment, kind, word):
        with self.assertRaises(kind) as caught:
            film.at(moment)
        self.assertIs(type(caught.exception), kind)
        self.assertEqual(caught.exception.why.word, word)

    def test_errors(self):
        for film in (EAR, MOVED):
            for bad in no_sides(film):
                for call in (film.side, film.placed):
                    self.check_part(BadSides, "at", call, bad, None)
                self.check_part(BadSides, "at", film.direction, bad)
            for bad in NO_MOMENTS:
                self.check_part(BadNumber, "moment", film.side, (0, 0), bad)
                self.check_part(BadNumber, "moment", film.placed, (0, 0), bad)
                self.check_part(BadNumber, "moment", film.at, bad)
                self.check_part(BadNumber, "start", film.part, bad, None)
                self.check_part(BadNumber, "stop", film.part, 0, bad)
            for start, stop in ((0, 0), ((1, 2), (1, 2)), ((1, 2), (1, 3)), (1, 1), (1, 0), ((1, 2), (3, 2))):
                self.check_part(BadNumber, "stop", film.part, start, stop)
        for bad in NO_MOMENTS:
            self.check_part(BadNumber, "moment", THROUGH.at, bad)

    def test_safe_films_stay_lots(self):
        chance = random.Random(8)
        for film in SAFE:
            for run in range(3):
                moment = pair(Fraction(chance.randrange(1, 10 ** 6), 10 ** 6))
                lot = film.at(moment)
                self.assertEqual([fence.corners for fence in lot.fences],
                                 [tuple(film.side((f, k), moment)[0] for k in range(len(row))) for f, row in enumerate(film.first)])
                self.assertEqual([lot.within(k) for k in range(len(lot))], [film.at(0).within(k) for k in range(len(lot))])


class SignOnTest(Raises, unittest.TestCase):
    def test_signs(self):
        for film in (EAR, BENT_EAR, DART, GROWN, MOVED, WITHIN, still(*RING), still(*nested(2)), still(DENT), SPUR):
            for ratio in (1, 2, (3, 7)):
                slow = SlowFilm(film, ratio)
                chance = random.Random(3)
                for four in [tuple(chance.choice(film.sides) for k in range(4)) for run in range(60)] + [(film.sides[0],) * 4]:
                    size = slow.determinant(four)
                    self.assertEqual(sign_on(film, four, ratio), (size > 0) - (size < 0))
                    self.assertEqual(sign_on(ratio=ratio, film=film, four=in_lists(four)), (size > 0) - (size < 0))

    def test_beside_the_lot(self):
        lot = EAR.at((1, 2))
        for four in itertools.product(EAR.sides, repeat=4):
            size = determinant(lot, four, 2)[0]
            self.assertEqual(sign_on(EAR, four, 2), (size > 0) - (size < 0))

    def test_errors(self):
        four = [(0, 0), (0, 1), (0, 2), (0, 3)]
        for bad in NO_FILMS:
            self.check_part(BadFilm, "film", sign_on, bad, None, None)
        for bad in (None, True, 0, "0123", (), four[:3], four + four[:1], {at: 1 for at in four}, iter(four), (0, 1, 2, 3)):
            self.check_part(BadSides, "four", sign_on, EAR, bad, None)
        for bad in no_sides(EAR):
            for place in range(4):
                self.check_part(BadSides, "four", sign_on, EAR, four[:place] + [bad] + four[place + 1:], 0)
        for bad in NO_RATIOS:
            self.check_part(BadRatio, "ratio", sign_on, EAR, four, bad)
        self.assertEqual(sign_on(still(comb(4)), [(0, 8)] * 4, 1), 0)


if __name__ == "__main__":
    unittest.main()

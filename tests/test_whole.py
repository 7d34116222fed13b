"""What the document promises over the whole program: papers of all classes, and what frames there are."""

import importlib
import itertools
import unittest

from oddsquares.chains import joined
from oddsquares.desk import Desk
from oddsquares.earfilms import ear_film
from oddsquares.ears import ears
from oddsquares.fences import Fence
from oddsquares.films import Film
from oddsquares.found import found
from oddsquares.frames import places, stands
from oddsquares.judged import judged
from oddsquares.lots import Lot
from oddsquares.near import near, near_ratio
from oddsquares.nudged import nudged
from oddsquares.papers import Denial, Paper
from oddsquares.sums import sums
from tests.shapes import KITE, TRI, cell, comb, nested
from tests.test_interface import INTERFACE
from tests.told import LARGE, RING, lot_of, moved

DENIALS = {"Short", "Back", "Meets", "Cross", "Tiny", "Off", "Askew", "Barred", "Touch", "Jammed", "Halted", "Far", "Left", "Loose"}
PAPERS = {"Closed", "Apart", "Gap", "One", "Many", "Plain", "Safe", "Living", "Chains", "Joined", "Story", "Near", "Emptied", "Hinged"}
VALUES = ([1, [2, (3, [])]], None, "x", {"a": [1]}, True, 0, ((1, 2), [3]), 2.5, 10 ** 40)
RIGHT = ((0, 0), (4, 0), (0, 3))


def paper_classes():
    """All classes of papers with the names of their parameters."""
    told = []
    for file, names in INTERFACE.items():
        for name, parameters in names.items():
            if name in DENIALS | PAPERS:
                told.append((getattr(importlib.import_module("oddsquares." + file), name), parameters.split()))
    return told


def in_tuples(value):
    return tuple(in_tuples(item) for item in value) if isinstance(value, (list, tuple)) else value


class PapersTest(unittest.TestCase):
    def test_all_classes_are_known(self):
        self.assertEqual({kind.__name__ for kind, names in paper_classes()}, DENIALS | PAPERS)
        found = set()
        for file in INTERFACE:
            for name, value in vars(importlib.import_module("oddsquares." + file)).items():
                if isinstance(value, type) and issubclass(value, Paper):
                    found.add(name)
        self.assertEqual(found, DENIALS | PAPERS | {"Paper", "Denial"})

    def test_words_parts_and_truth(self):
        for kind, names in paper_classes():
            for first in range(len(VALUES)):
                values = [VALUES[(first + place) % len(VALUES)] for place in range(len(names))]
                for paper in (kind(*values), kind(**dict(zip(names, values)))):
                    self.assertEqual(paper.word, kind.__name__.lower())
                    self.assertEqual(paper.parts, in_tuples(values))
                    self.assertIs(bool(paper), kind.__name__ in PAPERS)
                    self.assertIs(isinstance(paper, Denial), kind.__name__ in DENIALS)
                    for name, value in zip(names, values):
                        self.assertEqual(getattr(paper, name), in_tuples(value))

    def test_lists_that_are_changed_later(self):
        for kind, names in paper_classes():
            values = [[[1, 2], 3] for _ in names]
            paper = kind(*values)
            for value in values:
                value[0].append(4)
                value.clear()
            self.assertEqual(paper.parts, (((1, 2), 3),) * len(names))

    def test_equality(self):
        papers = [kind(*[[1, [place]] for place in range(len(names))]) for kind, names in paper_classes()]
        again = [kind(*[(1, (place,)) for place in range(len(names))]) for kind, names in paper_classes()]
        for (k, one), (j, other) in itertools.product(enumerate(papers), enumerate(again)):
            self.assertIs(one == other, k == j)
            self.assertIs(one != other, k != j)
        for kind, names in paper_classes():
            for place in range(len(names)):
                values = [7] * len(names)
                bent = values[:place] + [8] + values[place + 1:]
                self.assertIs(kind(*values) == kind(*bent), False)
            for other in (None, True, 0, "", (), kind(*[7] * len(names)).parts, Paper(kind.__name__.lower(), *[7] * len(names))):
                self.assertIs(kind(*[7] * len(names)) == other, False)

    def test_values_of_other_classes(self):
        lot = lot_of(TRI)
        film = Film([TRI], [TRI])
        values = [lot, lot.fences[0], film, judged(lot, 1), lot.fences[0].corners, None, 1, "lot"]
        for one, other in itertools.permutations(values, 2):
            self.assertIs(one == other, False)
        self.assertEqual((Lot([Fence(TRI)]), Film(first=[list(TRI)], last=[list(TRI)])), (lot, film))


class OverviewTest(unittest.TestCase):
    LOTS = ((RIGHT,), (cell(0, 0),), (comb(2),), (KITE,), RING, (LARGE, TRI), tuple(nested(2)), (TRI, moved(RIGHT, 9, 0)))

    def test_each_lot_has_a_square(self):
        for rows in self.LOTS:
            self.assertIs(stands(lot_of(*rows), found(lot_of(*rows)), 1), True)

    def test_plain_lots(self):
        """For each word the kinds add up to 0; squares of one fence are odd in number; no post is at a corner."""
        for rows in self.LOTS:
            for ratio in (1, (3, 2)):
                lot = nudged(lot_of(*rows), ratio, (1, 10))
                told = judged(lot, ratio)
                self.assertTrue(all(total == 0 for word, many, total in sums(told)))
                for row in told.rows:
                    self.assertEqual([len(sides) for sides in places(lot, row[2])], [1] * 4)
                if ratio == 1:
                    many = {word: count for word, count, total in sums(told)}
                    self.assertTrue(all(many[(fence,) * 4] % 2 == 1 for fence in range(len(lot))))

    def test_near_squares(self):
        for rows in self.LOTS:
            lot = nudged(lot_of(*rows), 1, (1, 10))
            ratio = near_ratio(lot)
            self.assertEqual(len(near(lot, ratio).triples), len(judged(lot, 1).rows))

    def test_frames_at_both_ends_of_a_film(self):
        """All of them are in pairs: of like kinds if one is at first and one at last, otherwise of kinds turned about."""
        for rows in (((0, 0), (9, 1), (12, 7), (3, 8)), KITE):
            for ratio in (1, 2):
                lot = nudged(lot_of(rows), ratio, (1, 10))
                film = ear_film(lot, 0, ears(lot, 0)[0])
                kinds = {(moment, number): row[3] for moment in (0, 1) for number, row in enumerate(judged(film.at(moment), ratio).rows)}
                told = joined(film, ratio)
                if told:
                    self.assertEqual(sorted(frame for both in told.pairs for frame in both), sorted(kinds))
                    for one, other in told.pairs:
                        self.assertEqual(kinds[one], kinds[other] if one[0] != other[0] else -kinds[other])

    def test_the_desk_tells_the_same(self):
        desk = Desk()
        for corners in RING:
            desk.do("fence " + " ".join(f"{x},{y}" for x, y in corners))
        self.assertEqual(desk.lot, lot_of(*RING))
        self.assertEqual(len(desk.do("frames")), len(judged(lot_of(*RING), 1).rows) + 1)


if __name__ == "__main__":
    unittest.main()

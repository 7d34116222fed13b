import inspect
import unittest

from oddsquares.chains import Chains, Joined
from oddsquares.fences import Back, Closed, Meets, Short
from oddsquares.fours import Askew, Many, Off, One, Tiny
from oddsquares.gaps import Gap
from oddsquares.judged import Barred, Plain
from oddsquares.lives import Jammed, Living
from oddsquares.lots import Apart, Cross
from oddsquares.papers import Denial, Paper, fixed
from oddsquares.safe import Safe, Touch
from oddsquares.stories import Halted, Story

PAPERS = (Closed, Apart, Gap, One, Many, Plain, Safe, Living, Chains, Joined, Story)
DENIALS = (Short, Back, Meets, Cross, Tiny, Off, Askew, Barred, Touch, Jammed, Halted)
VALUES = (0, True, None, "word", (1, 2), [1, [2, (3, [4])]], {"a": [1]}, object())


class FixedTest(unittest.TestCase):
    def test_lists_become_tuples(self):
        self.assertEqual(fixed([1, [2, (3, [])], "[4]"]), (1, (2, (3, ())), "[4]"))
        self.assertEqual(fixed(([],)), ((),))

    def test_other_values_stay(self):
        table = {"a": [1]}
        for value in (0, True, None, "ab", b"ab", 1.5, table, object()):
            self.assertIs(fixed(value), value)
        self.assertEqual(table, {"a": [1]})

    def test_nothing_is_changed(self):
        value = [1, [2]]
        fixed(value)
        self.assertEqual(value, [1, [2]])

    def test_deep(self):
        value = 0
        for _ in range(30):
            value = [value]
        for _ in range(30):
            value = fixed(value)
            self.assertIs(type(value), tuple)
            value = value[0]
        self.assertEqual(value, 0)


class PaperTest(unittest.TestCase):
    def test_word_parts_truth(self):
        for kind, truth in ((Paper, True), (Denial, False)):
            paper = kind("note", [1, [2]], "a")
            self.assertEqual((paper.word, paper.parts, bool(paper)), ("note", ((1, (2,)), "a"), truth))
            self.assertEqual(kind(word="note").parts, ())
            self.assertIs(type(kind("note").parts), tuple)

    def test_equality(self):
        self.assertEqual(Paper("note", [1]), Paper("note", (1,)))
        self.assertEqual(Denial("note", [1]), Denial("note", (1,)))
        self.assertEqual(Paper("note", 1), Paper("note", True))
        for other in (Paper("note"), Paper("other", (1,)), Denial("note", (1,)), Paper("note", 1), Paper("note", (1,), 1),
                      None, "note", ("note", (1,)), object()):
            self.assertIs(Paper("note", (1,)) == other, False)
            self.assertIs(Paper("note", (1,)) != other, True)
        self.assertIs(Denial("no") == Paper("no"), False)

    def test_a_changed_list_changes_nothing(self):
        rows = [1, [2]]
        paper = Paper("note", rows)
        rows[1].append(3)
        rows.append(4)
        self.assertEqual(paper.parts, ((1, (2,)),))

    def test_the_class_counts(self):
        self.assertIs(Paper("closed", True) == Closed(True), False)
        self.assertIs(Closed(True) == Paper("closed", True), False)
        self.assertIs(Short(1) == Back(1), False)


class ClassesTest(unittest.TestCase):
    def test_bases(self):
        self.assertTrue(issubclass(Denial, Paper))
        for kind in PAPERS:
            self.assertTrue(issubclass(kind, Paper) and not issubclass(kind, Denial))
        for kind in DENIALS:
            self.assertTrue(issubclass(kind, Denial))

    def test_parts_by_place_and_by_name(self):
        for kind in PAPERS + DENIALS:
            names = list(inspect.signature(kind).parameters)
            for first in range(len(VALUES)):
                values = [VALUES[(first + place) % len(VALUES)] for place in range(len(names))]
                for paper in (kind(*values), kind(**dict(zip(names, values)))):
                    self.assertEqual(paper.word, kind.__name__.lower())
                    self.assertEqual(paper.parts, fixed(values))
                    self.assertEqual([getattr(paper, name) for name in names], list(fixed(values)))
                    self.assertIs(bool(paper), kind in PAPERS)
                    self.assertIs(paper == kind(*values), True)


if __name__ == "__main__":
    unittest.main()

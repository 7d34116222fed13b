import unittest

from oddsquares.errors import BadPaper
from oddsquares.judged import Barred, Plain, judged
from oddsquares.papers import Paper
from oddsquares.sums import sums
from tests.shapes import KITE, TRI, star
from tests.told import LARGE, RING, lot_of
from tests.values import Raises


class SumsTest(Raises, unittest.TestCase):
    def test_sums(self):
        for rows in ((TRI,), (KITE,), RING, (LARGE, TRI), (star(9, 5), star(7, 5, (3, 12)))):
            for ratio in (1, 2, (3, 7)):
                plain = judged(lot_of(*rows), ratio)
                words = [row[0] for row in plain.rows]
                right = tuple((word, words.count(word), sum(row[3] for row in plain.rows if row[0] == word))
                              for word in sorted(set(words)))
                self.assertEqual(sums(plain), right)
                self.assertEqual(sums(plain=Plain([list(row) for row in plain.rows])), right)
                self.assertEqual([told[2] for told in right], [0] * len(right))

    def test_kinds_that_do_not_add_up_to_0(self):
        rows = [row for row in judged(lot_of(*RING), 2).rows if row[3] == 1]
        self.assertEqual(sums(Plain(rows)), (((0,) * 4, 3, 3), ((0, 0, 0, 1), 1, 1), ((0, 0, 1, 0), 4, 4), ((0, 0, 1, 1), 4, 4),
                                             ((1,) * 4, 3, 3)))

    def test_words_ascending(self):
        rows = judged(lot_of(*RING), 1).rows
        self.assertEqual(sums(Plain(rows[::-1])), sums(Plain(rows)))

    def test_no_rows(self):
        self.assertEqual(sums(Plain(())), ())

    def test_errors(self):
        rows = judged(lot_of(TRI), 1).rows

        class Other(Plain):
            pass

        for bad in (None, True, 0, "plain", rows, (), Paper("plain", rows), Barred(rows[0][2], 0), Plain, object(), Other(rows)):
            self.check_part(BadPaper, "plain", sums, bad)


if __name__ == "__main__":
    unittest.main()

import unittest

from oddsquares.errors import BadFence, BadLine, BadLot, BadText, NoFence, NoLot, TooMany
from oddsquares.fences import Back, Fence
from oddsquares.lot_texts import lot_text, read_lot
from oddsquares.lots import Lot
from tests.shapes import DENT, KITE, TRI, cell, nested, star
from tests.values import Raises


def line(corners):
    return " ".join("%d,%d" % corner for corner in corners)


class TextsTest(Raises, unittest.TestCase):
    def test_back_and_forth(self):
        for rows in ([TRI], [KITE, cell(9, 9)], nested(6), [DENT[::-1]], [star(40, 9), star(20, 9, (40, 0))]):
            lot = Lot([Fence(row) for row in rows])
            text = lot_text(lot)
            self.assertEqual(text.count("\n"), len(lot) - 1)
            self.assertEqual(read_lot(text), lot)
            self.assertEqual(read_lot(text=lot_text(lot=lot)), lot)

    def test_text(self):
        lot = Lot([Fence([(0, 0), ((9, 2), 0), (0, (1, 3))]), Fence(cell(-9, -9, 3))])
        self.assertEqual(lot_text(lot), "0,0 9/2,0 0,1/3\n-9,-9 -6,-9 -6,-6 -9,-6")

    def test_right_hand_round(self):
        self.assertEqual(lot_text(read_lot("0,0 1,3 4,0")), "0,0 4,0 1,3")

    def test_the_first_word_that_is_no_point(self):
        good = line(TRI)
        for text, at in (("", (0, 0)), (" ", (0, 0)), ("\n", (0, 0)), (good + "\n\n" + good, (1, 0)), (good + " ", (0, 3)),
                         (" " + good, (0, 0)), (good + "\n" + good + " x", (1, 3)), (good + "\n ", (1, 0)), ("0,0\t4,0", (0, 0)),
                         (good + "\r\n" + good, (0, 2)), ("0,0 4 1,3", (0, 1)), ("0,0 4,0 1,3 0,0,0 x", (0, 3)),
                         ("0,0 +4,0 1,3", (0, 1)), ("0,0 4,0 1,2/4\nx", (0, 2)), ("0,0 4,0 1,03", (0, 2)), ("0,0 4,-0 1,3", (0, 1)),
                         ("0,0 1,0\n0,0 1,1 x", (1, 2)), ("0,0 4,0 2,0\nx", (1, 0)), ("0,0 " + "9" * 61 + ",0 1,3", (0, 1)),
                         (good + "\x0b" + good, (0, 2)), (good + "\u2028" + good, (0, 2))):
            self.check_raises(BadLine, {"line": at[0], "word": at[1]}, read_lot, text)

    def test_then_what_fence_raises(self):
        self.check_part(BadFence, "corners", read_lot, "0,0")
        self.check_part(BadFence, "corners", read_lot, line(TRI) + "\n0,0 1,1")
        self.check_part(BadFence, "corners", read_lot, line([(k, k * k) for k in range(41)]))
        self.check_raises(NoFence, {"why": Back(0)}, read_lot, "0,0 4,0 2,0\n0,0 1,1")
        self.check_part(BadFence, "corners", read_lot, "0,0 1,1\n0,0 4,0 2,0")

    def test_then_what_lot_raises(self):
        seven = [line(cell(9 * k, 0)) for k in range(7)]
        self.assertEqual(len(read_lot("\n".join(seven[:6]))), 6)
        self.check_part(BadLot, "fences", read_lot, "\n".join(seven))
        self.check_part(BadFence, "corners", read_lot, "\n".join(seven + ["0,0"]))
        with self.assertRaises(NoLot) as caught:
            read_lot(line(TRI) + "\n" + line(TRI))
        self.assertEqual(caught.exception.why.parts[:2], ((0, 0), (1, 0)))
        rows = [[(k + at, k * k) for k in range(31)] for at in (0, 2000)]
        self.check_raises(TooMany, {"what": "sides", "most": 60}, read_lot, "\n".join(line(row) for row in rows))

    def test_long_texts(self):
        for text in (" " * 20000, "x" * 20000):
            self.check_raises(BadLine, {"line": 0, "word": 0}, read_lot, text)
        for text in (" " * 20001, line(TRI) + " " * 20000, "x" * 30000):
            self.check_part(BadText, "text", read_lot, text)
        text = (line(TRI) + "\n") * 1666
        self.check_part(BadLot, "fences", read_lot, text[:-1])
        self.check_part(BadFence, "corners", read_lot, ("0,0 " * 5000)[:-1])
        rows = [star(20, 5, (30 * k, 0), k) for k in range(3)]
        text = lot_text(Lot([Fence(row) for row in rows]))
        self.assertEqual(read_lot(text), Lot([Fence(row) for row in rows]))
        self.assertGreater(len(text), 6000)

    def test_no_strings(self):
        for bad in (None, True, 7, b"0,0 4,0 1,3", ["0,0 4,0 1,3"], (), {}, object(), Lot([Fence(TRI)])):
            self.check_part(BadText, "text", read_lot, bad)
        for bad in (None, True, 7, "0,0 4,0 1,3", [Fence(TRI)], Fence(TRI), object()):
            self.check_part(BadLot, "lot", lot_text, bad)


if __name__ == "__main__":
    unittest.main()

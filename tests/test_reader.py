import unittest

from oddsquares.errors import BadLine, BadText
from oddsquares.exact import number_text
from oddsquares.points import point_text
from oddsquares.reader import read_line, words_of
from tests.values import Raises

# For each line of the table a right one and what it tells, its words being points (p), numbers (n) and counts (c).
LINES = (("fence 0,0 4,0 1/2,-3/7", ("fence", ((0, 1), (0, 1)), ((4, 1), (0, 1)), ((1, 2), (-3, 7))), "ppp"),
         ("drop 5", ("drop", 5), "c"), ("ratio 3/2", ("ratio", (3, 2)), "n"), ("cut 0 12", ("cut", 0, 12), "cc"), ("undo", ("undo",), ""),
         ("show", ("show",), ""), ("gap", ("gap",), ""), ("ears 9999", ("ears", 9999), "c"), ("frames", ("frames",), ""),
         ("sums", ("sums",), ""), ("square", ("square",), ""), ("film 1 0", ("film", 1, 0), "cc"), ("story 0 2", ("story", 0, 2), "cc"),
         ("near -3", ("near", (-3, 1)), "n"), ("hinges 0 1 1/2 0 -7/2", ("hinges", 0, 1, (1, 2), (0, 1), (-7, 2)), "ccnnn"),
         ("picture 60 0", ("picture", 60, 0), "cc"))
NO_COUNTS = ("", "00", "01", "0012", "10000", "99999", "123456", "-1", "-0", "+1", "1.0", "1/1", "1,1", "a", "1a", "-", "\t1", "1\n",
             "\u0661", "\u00b2", "one", "None", "True", "0x1", "1e3", "1_0")
NO_NUMBERS = ("", "01", "-0", "+1", "2/4", "0/2", "1/0", "1/1", "3/-2", "1/", "/2", "1/2/3", "1.5", "1,2", "a", "--1", "-", "1/02", "-01",
              "\u0661", "1/\u0662", "\t1", "1\n", "1_0", "1e3", "(1,2)")
NO_POINTS = ("", "1", "1,", ",1", "1,2,3", ",", "01,1", "1,01", "1,-0", "+1,1", "2/4,1", "1,2/4", "1/2", "1;2", "(1,2)", "1,2\n", "a,b", "1,1.0",
             "\u0661,1")
NO_STRINGS = (None, True, 0, 1.0, (), [], ["undo"], ("cut", 0, 1), {}, {"undo"}, b"undo", object(), str)


class ReaderTest(Raises, unittest.TestCase):
    def check_line(self, line, word):
        self.check_raises(BadLine, {"line": 0, "word": word}, read_line, line)

    def test_words(self):
        for line in ("", " ", "undo", " undo", "undo ", "cut  1", "a b  c   d ", "\t x\n", "fence 0,0", "x" * 2000, " " * 2000):
            told = words_of(line)
            self.assertIs(type(told), tuple)
            self.assertEqual(" ".join(told), line)
            self.assertEqual(len(told), line.count(" ") + 1)
            self.assertEqual(words_of(line=line), told)
        self.assertEqual([words_of(""), words_of("cut  1"), words_of(" a ")], [("",), ("cut", "", "1"), ("", "a", "")])

    def test_each_line(self):
        for line, told, kinds in LINES:
            self.assertEqual(read_line(line), told)
            self.assertEqual(read_line(line=line), told)
            self.assertIs(type(read_line(line)), tuple)

    def test_bent_at_each_word(self):
        bad_words = {"c": NO_COUNTS + ("1/2", "0,0"), "n": NO_NUMBERS + ("0,0",), "p": NO_POINTS + ("7", "-1/2")}
        for line, told, kinds in LINES:
            words = line.split(" ")
            for place, kind in enumerate(kinds, 1):
                for bad in bad_words[kind]:
                    self.check_line(" ".join(words[:place] + [bad] + words[place + 1:]), place)
                    # Also if more words behind it are bent, are too few or too many.
                    self.check_line(" ".join(words[:place] + [bad] + words[place + 1:] + ["x"]), place)
                    self.check_line(" ".join(words[:place] + [bad]), place)
                    self.check_line(" ".join(words[:place] + [bad] + ["x"] * 50), place)

    def test_first_words(self):
        for bad in ("", " ", "jump", "Undo", "UNDO", "undo\n", "\tundo", "undo,", "fences", "0", "fence,", "f", "undoundo", "None", " undo", "kinds"):
            self.check_line(bad, 0)
            self.check_line(bad + " 1 2", 0)
            self.check_line(bad + "  ", 0)

    def test_too_few_and_too_many(self):
        for line, told, kinds in LINES:
            words = line.split(" ")
            for many in range(1, len(words)):
                self.check_line(" ".join(words[:many]), many)
            if words[0] not in ("fence", "story"):
                for more in ([""], ["1"], ["1", "2"], ["x"], [words[-1]], ["", ""], ["0,0"]):
                    self.check_line(" ".join(words + more), len(words))
        # An empty word is a word: none is too few, but one of its form is looked for first.
        self.check_line("cut ", 1)
        self.check_line("cut 1 ", 2)
        self.check_line("undo ", 1)
        self.check_line("fence 0,0 4,0 ", 3)
        self.check_line("fence 0,0 4,0 1,3 ", 4)

    def test_points_of_a_fence(self):
        points = [((k, 1), (k * k, 7) if k % 7 else (k * k // 7, 1)) for k in range(42)]
        texts = [point_text(point) for point in points]
        for many in range(42):
            line = " ".join(["fence"] + texts[:many])
            if many < 3:
                self.check_line(line, many + 1)
            elif many <= 40:
                self.assertEqual(read_line(line), ("fence", *points[:many]))
            else:
                self.check_line(line, 41)
        # The first word that is not of its form comes first, and so does the first one too many.
        self.check_line(" ".join(["fence"] + texts[:39] + ["x"] + texts[:2]), 40)
        self.check_line(" ".join(["fence"] + texts[:40] + ["x", "y"]), 41)

    def test_counts_of_a_story(self):
        for many in range(44):
            line = " ".join(["story"] + [str(k) for k in range(many)])
            if many < 2:
                self.check_line(line, many + 1)
            elif many <= 41:
                self.assertEqual(read_line(line), ("story", *range(many)))
            else:
                self.check_line(line, 42)
        self.check_line(" ".join(["story"] + ["0"] * 20 + ["00"] + ["0"] * 30), 21)

    def test_counts(self):
        for count in (0, 1, 9, 10, 999, 1000, 9999):
            self.assertEqual(read_line(f"drop {count}"), ("drop", count))
            self.assertIs(type(read_line(f"drop {count}")[1]), int)
        for text in NO_COUNTS:
            self.check_line("drop " + text, 1)

    def test_long_numbers(self):
        for digits in (1, 29, 30, 31, 59, 60):
            top = 10 ** digits - 1
            for value in ((top, 1), (-top, 1), (1, top + 1 if digits < 60 else top), (-top, top - 1 if digits > 1 else 2)):
                self.assertEqual(read_line("ratio " + number_text(value)), ("ratio", value))
                self.assertEqual(read_line("near " + number_text(value)), ("near", value))
                points = [(value, (0, 1)), ((1, 3), value), (value, value)]
                self.assertEqual(read_line("fence " + " ".join(point_text(point) for point in points)), ("fence", *points))
        # A word is read as read_number and read_point read it: 61 digits are too many.
        for text in ("1" + "0" * 60, "1/1" + "0" * 60):
            self.check_line("ratio " + text, 1)
            self.check_line("fence 0,0 1,0 0," + text, 3)

    def test_2000_signs_and_2001(self):
        point = "1" * 23 + "," + "2" * 24
        line = "fence " + " ".join([point] * 40)
        self.assertLessEqual(len(line), 2000)
        self.assertEqual(len(read_line(line)), 41)
        line = line + " " * (2000 - len(line))
        self.check_line(line, 41)
        self.assertEqual(len(words_of(line)), line.count(" ") + 1)
        for call in (words_of, read_line):
            self.check_part(BadText, "line", call, line + " ")
            self.check_part(BadText, "line", call, "x" * 2001)
            self.check_part(BadText, "line", call, "undo" + " " * 19000)

    def test_no_strings(self):
        for bad in NO_STRINGS:
            self.check_part(BadText, "line", words_of, bad)
            self.check_part(BadText, "line", read_line, bad)


if __name__ == "__main__":
    unittest.main()

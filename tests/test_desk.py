import unittest

from oddsquares.desk import Desk
from oddsquares.earfilms import ear_film
from oddsquares.ears import cut, ears
from oddsquares.errors import (BadEars, BadLine, BadLot, BadNumber, BadRatio, BadSides, BadText, Misfit, NoFence, NoLot, OddError,
                               TooMany)
from oddsquares.exact import number_text
from oddsquares.fences import Fence, Short
from oddsquares.found import found
from oddsquares.gaps import gap
from oddsquares.hinges import hinge_sums, judged_hinges
from oddsquares.judged import judged
from oddsquares.likelots import with_straight
from oddsquares.lives import judged_lives
from oddsquares.lot_texts import lot_text
from oddsquares.lots import Cross
from oddsquares.near import near
from oddsquares.pictures import picture
from oddsquares.points import point_text
from oddsquares.staircases import staircase
from oddsquares.stories import story
from oddsquares.sums import sums
from tests.shapes import DENT, KITE, TRI, cell
from tests.told import BENT, LARGE, RING, lot_of, moved
from tests.values import Raises

TRI_LINE = "fence 0,0 4,0 1,3"
KITE_LINE = "fence 0,0 4,0 3,2 1,3"
RIGHT = ((0, 0), (4, 0), (0, 3))
LATE = ((0, 0), (5, -1), (4, 4), (2, 5), (0, 4))
LOTS = (lot_of(TRI), lot_of(KITE), lot_of(DENT), lot_of(BENT), lot_of(*RING), lot_of(LARGE, TRI), lot_of(RIGHT), lot_of(cell(0, 0)),
        lot_of(TRI, ((20, 0), (24, 1), (21, 5))), lot_of(moved(KITE, (1, 3), (-2, 7), (3, 5))), lot_of(LATE))
ASK_FOR_A_LOT = ("drop 0", "cut 0 1", "show", "gap", "ears 0", "frames", "sums", "square", "film 0 1", "story 0 1", "near 2",
                 "hinges 0 0 1/2 0 1", "picture 4 3")


def bow(many, x=0):
    """A fence of many corners, all of which are ears, with short numbers."""
    return [(x + k, k * k) for k in range(many)]


def fence_line(corners):
    return "fence " + " ".join(point_text(corner) for corner in corners)


def desk_of(lot, ratio=1):
    desk = Desk()
    for fence in lot.fences:
        desk.do(fence_line(fence.corners))
    if ratio != 1:
        desk.do("ratio " + number_text(ratio))
    return desk


def texts(points):
    return " ".join(point_text(point) for point in points)


def spaced(*values):
    return " ".join(str(value) for value in values)


def state(desk):
    return (desk.lot, desk.ratio, desk.deeds)


class Desks(Raises):
    def check(self, desk, line, answer):
        """A line that changes nothing."""
        before = state(desk)
        told = desk.do(line)
        self.assertEqual(told, answer, line)
        self.assertIs(type(told), tuple)
        self.assertTrue(all(type(text) is str for text in told))
        self.assertEqual(state(desk), before)
        self.assertEqual(desk.do(line=line), told)

    def check_error(self, desk, kind, fields, line):
        """What raises changes nothing."""
        before = state(desk)
        self.check_raises(kind, fields, desk.do, line)
        self.assertEqual(state(desk), before)

    def check_error_of(self, desk, line, call, *parts):
        """The error that the function raises."""
        try:
            call(*parts)
        except OddError as error:
            self.check_error(desk, type(error), vars(error), line)
        else:
            self.fail(line)


class DeedsTest(Desks, unittest.TestCase):
    def test_a_new_desk(self):
        desk = Desk()
        self.assertEqual((desk.lot, desk.ratio, desk.deeds), (None, (1, 1), 0))

    def test_fences(self):
        desk = Desk()
        rows = [moved(TRI, 9 * k, k) for k in range(6)]
        for number, row in enumerate(rows):
            self.assertEqual(desk.do(fence_line(row)), (f"fence {number}",))
            self.assertEqual(state(desk), (lot_of(*rows[:number + 1]), (1, 1), number + 1))
        self.check_error(desk, BadLot, {"part": "fences"}, "fence 90,90 91,90 90,91")
        # Also if it would meet another one, but not if it is no fence.
        self.check_error(desk, BadLot, {"part": "fences"}, TRI_LINE)
        self.check_error(desk, NoFence, {"why": Short(0)}, "fence 90,90 90,90 90,91")
        # Right-hand round: kept left-hand round.
        desk = Desk()
        desk.do("fence 0,0 1,3 4,0")
        self.check(desk, "show", ("0,0 4,0 1,3",))

    def test_fences_that_are_none(self):
        desk = Desk()
        self.check_error(desk, NoFence, {"why": Short(1)}, "fence 0,0 4,0 4,0 1,3")
        desk.do(TRI_LINE)
        self.check_error(desk, NoLot, {"why": Cross((0, 0), (1, 0), ((0, 1), (0, 1)))}, TRI_LINE)
        large = desk_of(lot_of(bow(40), bow(18, 50)))
        self.check_error(large, TooMany, {"what": "sides", "most": 60}, "fence 90,90 91,90 90,91")
        self.check_error(large, NoLot, {"why": Cross((0, 0), (2, 0), large.lot.fences[0].corners[0])},
                         fence_line(large.lot.fences[0].corners[:3]))

    def test_drop(self):
        rows = [moved(TRI, 9 * k, k) for k in range(3)]
        desk = desk_of(lot_of(*rows))
        self.assertEqual((desk.do("drop 1"), desk.lot, desk.deeds), (("left 2",), lot_of(rows[0], rows[2]), 4))
        for bad in ("2", "9999"):
            self.check_error(desk, BadNumber, {"part": "fence"}, "drop " + bad)
        self.assertEqual((desk.do("drop 0"), desk.lot), (("left 1",), lot_of(rows[2])))
        self.assertEqual((desk.do("drop 0"), desk.lot, desk.deeds), (("left 0",), None, 6))
        self.check_error(desk, Misfit, {"part": "lot"}, "drop 0")
        self.assertEqual((desk.do(TRI_LINE), desk.lot), (("fence 0",), lot_of(TRI)))

    def test_ratio(self):
        desk = Desk()
        for deeds, (text, ratio) in enumerate((("2", (2, 1)), ("3/2", (3, 2)), ("1", (1, 1)), ("1", (1, 1)), ("1/" + "9" * 30, (1, 10 ** 30 - 1))), 1):
            self.assertEqual(desk.do("ratio " + text), (f"ratio {text}",))
            self.assertEqual(state(desk), (None, ratio, deeds))
        for bad in ("0", "-1", "-1/2"):
            self.check_error(desk, BadRatio, {"part": "ratio"}, "ratio " + bad)

    def test_cut(self):
        for corner in range(4):
            desk = desk_of(lot_of(LARGE, KITE))
            self.assertEqual(desk.do(f"cut 1 {corner}"), ("corners 3",))
            self.assertEqual(state(desk), (cut(lot_of(LARGE, KITE), 1, corner), (1, 1), 3))
            self.check_error(desk, BadEars, {"part": "corner"}, "cut 1 0")
        desk = desk_of(lot_of(DENT))
        for corner in (0, 2, 4, 9999):
            self.check_error(desk, BadEars, {"part": "corner"}, f"cut 0 {corner}")
        self.check_error(desk, BadNumber, {"part": "fence"}, "cut 1 1")
        self.assertEqual((desk.do("cut 0 3"), desk.do("undo"), desk.do("cut 0 1")), (("corners 3",), ("undone",), ("corners 3",)))

    def test_undo(self):
        desk = Desk()
        self.check_error(desk, Misfit, {"part": "undo"}, "undo")
        lines = [TRI_LINE, "ratio 2", fence_line(moved(KITE, 9, 9)), "cut 1 2", "ratio 2", "drop 0", "ratio 1/3", "drop 0", "fence 0,0 1,0 0,1",
                 "ratio 5"]
        states = [state(desk)]
        for line in lines:
            desk.do(line)
            states.append(state(desk))
        self.assertEqual([deeds for lot, ratio, deeds in states], list(range(11)))
        for before in states[-2::-1]:
            self.assertEqual(desk.do("undo"), ("undone",))
            self.assertEqual(state(desk), before)
        for _ in range(2):
            self.check_error(desk, Misfit, {"part": "undo"}, "undo")
        # What was undone is gone; other deeds come in its place.
        desk.do_all(lines[:3])
        desk.do("undo")
        desk.do("ratio 7")
        self.assertEqual([desk.do("undo"), state(desk), desk.do("undo"), state(desk)],
                         [("undone",), (lot_of(TRI), (2, 1), 2), ("undone",), (lot_of(TRI), (1, 1), 1)])

    def test_lines_that_ask_are_no_deeds(self):
        desk = desk_of(lot_of(KITE))
        for line in ASK_FOR_A_LOT[2:]:
            desk.do(line)
        self.assertEqual((desk.deeds, desk.do("undo"), desk.lot), (1, ("undone",), None))

    def test_no_lot(self):
        for desk in (Desk(), desk_of(lot_of(TRI))):
            if desk.lot is not None:
                desk.do("drop 0")
            for line in ASK_FOR_A_LOT:
                self.check_error(desk, Misfit, {"part": "lot"}, line)
            # What read_line raises comes first, the lot ahead of what the functions raise.
            self.check_error(desk, BadLine, {"line": 0, "word": 1}, "cut x 0")
            self.check_error(desk, Misfit, {"part": "lot"}, "near -1")
            self.check_error(desk, Misfit, {"part": "lot"}, "picture 0 0")
            self.check_error(desk, BadRatio, {"part": "ratio"}, "ratio -1")
        self.check_error(Desk(), BadLine, {"line": 0, "word": 1}, "undo 1")

    def test_bad_lines(self):
        desk = desk_of(lot_of(TRI))
        for bad in (None, True, 0, b"undo", ["undo"], ("cut", 0, 1), "x" * 2001):
            self.check_error(desk, BadText, {"part": "line"}, bad)
        for line, word in (("", 0), ("jump", 0), ("show ", 1), ("cut 0", 2), ("fence 0,0 4,0", 3), ("hinges 0 0 1/2 0", 5), ("ears 00", 1)):
            self.check_error(desk, BadLine, {"line": 0, "word": word}, line)

    def test_two_desks(self):
        one, other = Desk(), Desk()
        one.do(TRI_LINE)
        other.do("ratio 2")
        other.do(KITE_LINE)
        self.assertEqual((state(one), state(other)), ((lot_of(TRI), (1, 1), 1), (lot_of(KITE), (2, 1), 2)))
        one.do("undo")
        self.assertEqual((state(one), state(other)), ((None, (1, 1), 0), (lot_of(KITE), (2, 1), 2)))
        self.check(other, "show", ("0,0 4,0 3,2 1,3",))


class AnswersTest(Desks, unittest.TestCase):
    def test_show(self):
        for lot in LOTS:
            self.check(desk_of(lot), "show", tuple(lot_text(lot).split("\n")))
        self.check(desk_of(lot_of(LARGE, TRI)), "show", ("-10,-10 20,-9 1,25", "0,0 4,0 1,3"))

    def test_gap(self):
        for lot in LOTS[1:6]:
            told = gap(lot)
            (a, b), (c, d) = told.one, told.other
            self.check(desk_of(lot), "gap", (f"{number_text(told.squared)} {a} {b} {c} {d} {point_text(told.here)} {point_text(told.there)}",))
        self.check(desk_of(lot_of(KITE)), "gap", ("4 0 0 0 2 3,0 3,2",))
        self.check(desk_of(lot_of(TRI)), "gap", ("none",))

    def test_ears(self):
        for lot in LOTS:
            desk = desk_of(lot)
            for fence in range(len(lot)):
                self.check(desk, f"ears {fence}", (spaced("ears", *ears(lot, fence)),))
            self.check_error(desk, BadNumber, {"part": "fence"}, f"ears {len(lot)}")
        self.check(desk_of(lot_of(KITE)), "ears 0", ("ears 0 1 2 3",))
        self.check(desk_of(lot_of(TRI)), "ears 0", ("ears",))

    def test_frames_and_sums(self):
        words = set()
        for lot in LOTS:
            for ratio in (1, 2, (2, 3)):
                desk = desk_of(lot, ratio)
                told = judged(lot, ratio)
                words.add(told.word)
                if told:
                    lines = [f"{spaced(*word, kind)} {texts(posts)}" for word, four, posts, kind in told.rows]
                    self.check(desk, "frames", (f"plain {len(lines)}", *lines))
                    self.check(desk, "sums", tuple(spaced(*word, many, total) for word, many, total in sums(told)))
                else:
                    self.check(desk, "frames", (f"barred {told.post}", texts(told.posts)))
                    self.check(desk, "sums", ("barred",))
        self.assertEqual(words, {"plain", "barred"})
        self.check(desk_of(lot_of(*RING)), "sums", ("0 0 0 0 3 0", "0 0 0 1 12 0", "1 1 1 1 3 0"))
        large = desk_of(lot_of(bow(17)))
        for line in ("frames", "sums", "square", "near 2"):
            self.check_error(large, TooMany, {"what": "sides", "most": 16}, line)

    def test_square(self):
        for lot in LOTS:
            for ratio in (1, 2):
                self.check(desk_of(lot, ratio), "square", (texts(found(lot)),))

    def test_film(self):
        words = set()
        for lot in LOTS[1:4] + LOTS[7:8] + LOTS[9:]:
            for ratio in (1, (3, 2)):
                desk = desk_of(lot, ratio)
                for corner in ears(lot, 0):
                    told = judged_lives(ear_film(lot, 0, corner), ratio)
                    words.add((told.word, len(staircase(told)) > 1 if told else told.moment in ((0, 1), (1, 1))))
                    if told:
                        steps = [f"{number_text(moment)} {many}" for moment, many in staircase(told)]
                        self.check(desk, f"film 0 {corner}", (f"lives {len(told.lives)} knocks {len(told.knocks)}", *steps))
                    else:
                        self.check(desk, f"film 0 {corner}", (f"jammed {number_text(told.moment)}",))
        self.assertLessEqual({("living", True), ("living", False), ("jammed", True)}, words)
        self.check(desk_of(lot_of(KITE)), "film 0 2", ("lives 7 knocks 4", "0 3"))
        self.check(desk_of(lot_of(BENT)), "film 0 2", ("lives 13 knocks 8", "0 7", "1/25 5", "5/8 3"))
        self.check(desk_of(lot_of(cell(0, 0))), "film 0 0", ("jammed 0",))
        desk = desk_of(lot_of(DENT, moved(TRI, 20, 0)))
        self.check_error(desk, BadNumber, {"part": "fence"}, "film 2 0")
        self.check_error(desk, BadEars, {"part": "corner"}, "film 0 2")
        self.check_error(desk, BadEars, {"part": "corner"}, "film 1 0")
        large = lot_of(bow(14))
        self.check_error(desk_of(large), TooMany, {"what": "sides", "most": 14}, f"film 0 {ears(large, 0)[0]}")
        large = lot_of(bow(40))
        self.check_error(desk_of(large), TooMany, {"what": "corners", "most": 40}, f"film 0 {ears(large, 0)[0]}")

    def test_story(self):
        words = set()
        for lot, cuts in ((lot_of(KITE), (2,)), (lot_of(BENT), (2,)), (lot_of(cell(0, 0)), (1,)), (lot_of(((2, 3), (3, 0), (10, 0), (6, 5))), (0,)),
                          (lot_of(LATE), (0, 0)), (lot_of(LATE), (1, 0)), (lot_of(LATE), (2, 1))):
            for ratio in (1, 2):
                desk = desk_of(lot, ratio)
                told = story(lot, 0, cuts)
                words.add(told.word)
                answer = (f"halted {told.step}",) if not told else tuple(
                    spaced(word, *[number for both in rows for number in both])
                    for word, rows in (("pairs", told.pairs), ("home", told.home), ("back", told.back)))
                self.check(desk, "story 0 " + spaced(*cuts), answer)
        self.assertEqual(words, {"story", "halted"})
        self.check(desk_of(lot_of(BENT)), "story 0 2", ("pairs 0 3 1 4 2 5", "home 6 0", "back"))
        desk = desk_of(lot_of(KITE))
        self.check_error(desk, BadNumber, {"part": "fence"}, "story 1 0")
        for cuts in ("4", "2 1", "0 0"):
            self.check_error(desk, BadEars, {"part": "cuts"}, "story 0 " + cuts)
        large = lot_of(bow(14))
        self.check_error(desk_of(large), TooMany, {"what": "sides", "most": 13}, f"story 0 {ears(large, 0)[0]}")

    def test_near(self):
        words = set()
        pair = LOTS[8]
        for lot in LOTS[:3] + LOTS[6:9] + (with_straight(lot_of(TRI), 0, 0, (2, 11)),):
            for ratio in (2, (3, 2), (33, 32), 10):
                told = near(lot, ratio)
                words.add(told.word)
                answer = {"near": lambda: spaced("near", *[number for triple in told.triples for number in triple]),
                          "far": lambda: f"far {told.square}", "barred": lambda: "barred"}[told.word]()
                for own in (1, 7):
                    self.check(desk_of(lot, own), "near " + number_text(ratio), (answer,))
        self.assertEqual(words, {"near", "far", "barred"})
        self.check(desk_of(pair), "near 10", ("far 6",))
        self.check(desk_of(lot_of(TRI)), "near 2", ("near 0 0 2 1 4 1 2 3 5",))
        desk = desk_of(lot_of(TRI))
        for bad in ("0", "-2"):
            self.check_error(desk, BadRatio, {"part": "ratio"}, "near " + bad)
        self.check_error(desk, Misfit, {"part": "ratio"}, "near 1")

    def test_hinges(self):
        words = set()
        for lot in LOTS[:8]:
            desk = desk_of(lot)
            for fence, side in lot.sides:
                for share, a, b in (((1, 2), 0, 1), ((1, 4), 0, (-1, 2)), ((1, 4), 1, -1)):
                    told = judged_hinges(lot, (fence, side), share, (a, b))
                    words.add(told.word)
                    line = spaced("hinges", fence, side, number_text(share), number_text(a), number_text(b))
                    if told:
                        lines = [spaced(*word, many, total) for word, many, total in hinge_sums(told)]
                        self.check(desk, line, (f"hinged {len(told.rows)}", *lines))
                    else:
                        self.check(desk, line, (f"loose {texts((told.q, told.image))}",))
        self.assertEqual(words, {"hinged", "loose"})
        desk = desk_of(lot_of(TRI))
        self.check(desk, "hinges 0 0 1/4 0 1", ("loose 4,0 1,3",))
        for at in ("0 3", "1 0"):
            self.check_error(desk, BadSides, {"part": "at"}, f"hinges {at} 5 0 0")
        for share in ("0", "1", "-1/2"):
            self.check_error(desk, BadNumber, {"part": "share"}, f"hinges 0 0 {share} 0 0")
        self.check_error(desk, BadNumber, {"part": "turn"}, "hinges 0 0 1/2 1 0")
        self.check_error(desk_of(lot_of(bow(21), bow(20, 50))), TooMany, {"what": "sides", "most": 40}, "hinges 0 0 1/2 0 1")

    def test_picture(self):
        for lot in LOTS:
            for wide, high in ((1, 1), (4, 3), (60, 7)):
                self.check(desk_of(lot), f"picture {wide} {high}", picture(lot, [], wide, high))
        desk = desk_of(lot_of(TRI))
        self.check(desk, "picture 4 3", ("oo. ", "....", "o..o"))
        for sizes, part in (("0 0", "wide"), ("61 1", "wide"), ("1 0", "high"), ("60 61", "high")):
            self.check_error(desk, BadNumber, {"part": part}, "picture " + sizes)

    def test_errors_are_those_of_the_functions(self):
        lot = lot_of(DENT)
        desk = desk_of(lot)
        self.check_error_of(desk, "cut 0 0", cut, lot, 0, 0)
        self.check_error_of(desk, "story 0 1 1", story, lot, 0, [1, 1])
        self.check_error_of(desk, "film 0 0", ear_film, lot, 0, 0)
        self.check_error_of(desk, "picture 0 61", picture, lot, [], 0, 61)
        self.check_error_of(desk, "fence 0,0 0,0 1,1", Fence, [(0, 0), (0, 0), (1, 1)])


class DoAllTest(Desks, unittest.TestCase):
    def test_answers(self):
        lines = [TRI_LINE, "show", "ratio 2", "sums", "undo", "sums", "ears 0", "gap", "drop 0", "undo"]
        one, other = Desk(), Desk()
        told = one.do_all(lines)
        self.assertEqual(told, tuple(other.do(line) for line in lines))
        self.assertEqual((state(one), state(other)), ((lot_of(TRI), (1, 1), 1),) * 2)
        self.assertEqual((one.do_all(tuple(lines[1:2])), one.do_all(lines=["undo"]), state(one)), ((("0,0 4,0 1,3",),), (("undone",),), (None, (1, 1), 0)))

    def test_an_error_at_any_place(self):
        lines = ["ratio 3", "fence 10,0 14,0 11,3", "drop 0", "undo", "undo", "undo", "undo", "ratio 5"]
        for bad, kind, fields in (("show 1", BadLine, {"line": 0, "word": 1}), (None, BadText, {"part": "line"}), ("ratio 0", BadRatio, {"part": "ratio"}),
                                  ("drop 9", BadNumber, {"part": "fence"}), ("fence 0,0 0,0 1,1", NoFence, {"why": Short(0)})):
            for place in range(4):
                desk = desk_of(lot_of(TRI), 2)
                before = state(desk)
                self.check_raises(kind, fields, desk.do_all, lines[:place] + [bad] + lines[place:])
                self.assertEqual(state(desk), before)
                # Also what can be undone is as it was.
                self.assertEqual([desk.do("undo"), desk.do("undo"), state(desk)], [("undone",), ("undone",), (None, (1, 1), 0)])
        # More is undone than was done: the first error is told.
        desk = desk_of(lot_of(TRI), 2)
        before = state(desk)
        self.check_raises(Misfit, {"part": "undo"}, desk.do_all, ["undo", "undo", "undo", "jump"])
        self.assertEqual(state(desk), before)
        self.check_raises(Misfit, {"part": "lot"}, desk.do_all, ["undo", "undo", "show", "undo"])
        self.assertEqual([state(desk), desk.do("show")], [before, ("0,0 4,0 1,3",)])

    def test_0_lines_200_and_201(self):
        desk = desk_of(lot_of(TRI))
        before = state(desk)
        self.assertEqual((desk.do_all([]), desk.do_all(()), state(desk)), ((), (), before))
        self.assertEqual(len(desk.do_all(["ratio 2", "undo"] * 100)), 200)
        self.assertEqual(state(desk), before)
        self.assertEqual((len(desk.do_all(["ratio 2"] * 200)), desk.deeds), (200, 201))
        for bad in (["show"] * 201, ["jump"] * 201, [None] * 300):
            self.check_part(BadText, "lines", desk.do_all, bad)
        self.assertEqual(desk.deeds, 201)

    def test_no_lists(self):
        desk = desk_of(lot_of(TRI))
        for bad in (None, True, 0, "show", "", b"show", {}, {"show": 1}, {"show"}, object(), iter(["show"]), range(2), desk):
            self.check_part(BadText, "lines", desk.do_all, bad)
        self.check_part(BadText, "line", desk.do_all, ["show", ["show"]])

    def test_what_is_passed_is_not_changed(self):
        lines = ["ratio 2", "undo"]
        Desk().do_all(lines)
        self.assertEqual(lines, ["ratio 2", "undo"])


if __name__ == "__main__":
    unittest.main()

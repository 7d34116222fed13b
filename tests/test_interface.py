"""The names, arguments and places of the interface, as the document lists them."""

import importlib
import inspect
import unittest

PARTS = {name: "part" for name in ("BadNumber", "BadPoint", "BadText", "BadFence", "BadLot", "BadRatio", "BadSides", "BadFilm",
                                   "BadEars", "BadPaper", "Misfit")}
# For each file its functions and classes with their parameters, and under "Class.method" the methods that are listed.
INTERFACE = {
    "errors": dict(PARTS, NoFence="why", NoLot="why", NoFilm="word fence side", TooMany="what most", BadLine="line word"),
    "checks": {"is_integer": "value", "is_within": "value least most", "is_number": "value", "is_point": "value",
               "are_points": "value least most"},
    "papers": {"Paper": "word *parts", "Denial": "word *parts", "fixed": "value", "Paper.__eq__": "other"},
    "exact": {"number": "top under=1", "plus": "one other", "minus": "one other", "times": "one other", "over": "one other",
              "is_less": "one other", "sign_of": "value", "number_text": "value", "read_number": "text"},
    "points": {"point": "x y", "added": "one other", "taken": "one other", "scaled": "vector factor", "quarter": "vector",
               "cross": "one other", "dot": "one other", "squared": "one other", "between": "one other share",
               "point_text": "value", "read_point": "text"},
    "fences": {"Closed": "is_left", "Short": "side", "Back": "corner", "Meets": "one other point", "judged_corners": "corners",
               "Fence": "corners", "Fence.where": "point", "Fence.__contains__": "point", "Fence.__len__": "",
               "Fence.__eq__": "other"},
    "lots": {"Apart": "", "Cross": "one other point", "judged_fences": "fences", "Lot": "fences", "Lot.side": "at",
             "Lot.within": "fence", "Lot.innermost": "numbers", "Lot.only": "numbers", "Lot.__len__": "", "Lot.__eq__": "other"},
    "gaps": {"Gap": "squared one other here there", "gap": "lot"},
    "ears": {"is_ear": "lot fence corner", "ears": "lot fence", "cut": "lot fence corner", "home_row": "lot fence"},
    "lot_texts": {"lot_text": "lot", "read_lot": "text"},
    "fours": {"One": "posts", "Many": "one other", "Tiny": "point", "Off": "posts post", "Askew": "",
              "determinant": "lot four ratio", "on_four": "lot four ratio"},
    "check_fours": {"shows_four": "lot four ratio value"},
    "frames": {"is_frame": "posts ratio", "readings": "posts ratio", "places": "lot posts", "stands": "lot posts ratio",
               "row_of": "lot posts ratio"},
    "triangles": {"over_base": "fence base ratio"},
    "judged": {"Plain": "rows", "Barred": "posts post", "judged": "lot ratio"},
    "sums": {"sums": "plain"},
    "check_frames": {"shows_judged": "lot ratio value"},
    "films": {"Film": "first last", "Film.side": "at moment", "Film.direction": "at", "Film.at": "moment", "Film.placed": "at moment",
              "Film.backward": "", "Film.part": "start stop", "Film.__eq__": "other", "sign_on": "film four ratio"},
    "safe": {"Safe": "", "Touch": "moment one other point", "judged_film": "film"},
    "check_safe": {"shows_safe": "film value"},
    "lives": {"Living": "lives knocks", "Jammed": "moment posts", "judged_lives": "film ratio", "posts_at": "life moment",
              "frames_at": "living moment"},
    "check_lives": {"shows_lives": "film ratio value"},
    "chains": {"Chains": "chains rings", "chains_of": "living", "Joined": "pairs", "joined": "film ratio"},
    "staircases": {"staircase": "living"},
    "check_chains": {"shows_chains": "living value", "shows_joined": "film ratio value"},
    "earfilms": {"ear_film": "lot fence corner"},
    "stories": {"Story": "pairs home back", "Halted": "step why", "story": "lot fence cuts"},
    "check_stories": {"shows_story": "lot fence cuts value"},
    "found": {"found": "lot"},
    "nudged": {"with_corners": "lot moves", "nudged": "lot ratio span"},
    "near": {"Near": "triples", "Far": "square", "near": "lot ratio", "near_ratio": "lot"},
    "likelots": {"shifted": "lot vector", "quartered": "lot", "mirrored": "lot", "grown": "lot factor",
                 "with_straight": "lot fence side share", "other_rows": "plain ratio"},
    "check_near": {"shows_near": "lot ratio value"},
    "motions": {"carried": "lot fence vector", "blown": "lot fence spot share", "pushed": "lot fence side share"},
    "emptied": {"Emptied": "pairs", "Left": "rows", "emptied": "lot fence spot share ratio"},
    "check_emptied": {"shows_emptied": "lot fence spot share ratio value"},
    "hinges": {"Hinged": "rows", "Loose": "q image", "spot_of": "lot at share", "judged_hinges": "lot at share turn",
               "hinge_sums": "hinged"},
    "check_hinges": {"shows_hinges": "lot at share turn value"},
    "pictures": {"box_of": "lot", "picture": "lot frames wide high"},
    "reader": {"words_of": "line", "read_line": "line"},
    "desk": {"Desk": "", "Desk.do": "line", "Desk.do_all": "lines"},
}


def parameters_of(value):
    return " ".join(str(told) for told in inspect.signature(value).parameters.values() if told.name != "self")


class InterfaceTest(unittest.TestCase):
    def check_method(self, module, name, parameters):
        kind, method = name.split(".")
        told = vars(getattr(module, kind))
        self.assertIn(method, told)
        self.assertEqual(parameters_of(told[method]), parameters)

    def test_interface(self):
        for file, names in INTERFACE.items():
            module = importlib.import_module("oddsquares." + file)
            for name, parameters in names.items():
                with self.subTest(file=file, name=name):
                    if "." in name:
                        self.check_method(module, name, parameters)
                        continue
                    value = getattr(module, name)
                    self.assertEqual(value.__module__, module.__name__)
                    self.assertEqual(parameters_of(value), parameters)

    def test_each_class_is_made_in_its_own_body(self):
        for file, names in INTERFACE.items():
            module = importlib.import_module("oddsquares." + file)
            for name in names:
                if name[0].isupper() and "." not in name:
                    self.assertIn("__init__", vars(getattr(module, name)), name)


if __name__ == "__main__":
    unittest.main()

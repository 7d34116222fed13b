"""Every example of the document, as it is written there: tests/examples has one file for each section."""

import importlib
import os
import unittest

FOLDER = os.path.join(os.path.dirname(os.path.abspath(__file__)), "examples")
# In the order of the document: an example uses the names that earlier ones made last.
MODULES = ("errors", "checks", "papers", "exact", "points", "fences", "lots", "gaps", "ears", "lot_texts", "fours", "check_fours",
           "frames", "triangles", "judged", "sums", "check_frames", "films", "safe", "check_safe", "lives", "check_lives", "chains",
           "staircases", "check_chains", "earfilms", "stories", "check_stories", "found", "nudged", "near", "likelots", "check_near",
           "motions", "emptied", "check_emptied", "hinges", "check_hinges", "pictures", "reader", "desk")


def read_examples(section):
    """The list of (line number, what is run, the line that is told for it or None)."""
    path = os.path.join(FOLDER, section + ".txt")
    if not os.path.exists(path):
        return []
    examples = []
    with open(path, encoding="ascii") as lines:
        for number, line in enumerate(lines.read().splitlines(), 1):
            if line.startswith(">>> "):
                examples.append([number, line[4:], None])
            else:
                assert examples[-1][2] is None, "an example answers with one line"
                examples[-1][2] = line
    return examples


def names_of(section):
    """What the file defines: not what it imports, since the files that are no section have names of their own."""
    module = importlib.import_module("oddsquares." + section)
    return {name: value for name, value in vars(module).items() if getattr(value, "__module__", "") == module.__name__}


class ExamplesTest(unittest.TestCase):
    def check_error(self, source, told, names):
        kind = names[told.partition("(")[0]]
        with self.assertRaises(kind) as caught:
            exec(source, names)
        self.assertIs(type(caught.exception), kind)
        if "(" in told:
            self.assertEqual(vars(caught.exception), vars(eval(told, names)))

    def check_example(self, source, told, names):
        if told is None:
            exec(source, names)
        elif told.startswith("raises "):
            self.check_error(source, told.removeprefix("raises "), names)
        else:
            self.assertEqual(repr(eval(source, names)), told)

    def test_examples(self):
        names = {}
        for section in MODULES:
            names.update(names_of(section))
        for section in MODULES:
            # An earlier example may have given a name of this section to a value of its own.
            names.update(names_of(section))
            for number, source, told in read_examples(section):
                with self.subTest(section=section, line=number):
                    self.check_example(source, told, names)

    def test_each_section_has_examples(self):
        # The section of the errors is the only one without any.
        self.assertEqual([section for section in MODULES if not read_examples(section)], ["errors"])


if __name__ == "__main__":
    unittest.main()

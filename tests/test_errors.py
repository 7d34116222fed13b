import unittest

from oddsquares import errors

PART = ("BadNumber", "BadPoint", "BadText", "BadFence", "BadLot", "BadRatio", "BadSides", "BadFilm", "BadEars", "BadPaper",
        "Misfit")
FIELDS = dict({name: ("part",) for name in PART},
              NoFence=("why",), NoLot=("why",), NoFilm=("word", "fence", "side"), TooMany=("what", "most"),
              BadLine=("line", "word"))
VALUES = ("corners", None, True, 7, (1, [2]), [3, [4]], {"a": 1}, object(), 10 ** 5000)


class ErrorsTest(unittest.TestCase):
    def test_fields_by_place_and_by_name(self):
        for name, fields in FIELDS.items():
            kind = getattr(errors, name)
            for first in range(len(VALUES)):
                values = [VALUES[(first + place) % len(VALUES)] for place in range(len(fields))]
                named = dict(zip(fields, values))
                for error in (kind(*values), kind(**named)):
                    for field, value in named.items():
                        self.assertIs(getattr(error, field), value)

    def test_a_list_stays_a_list(self):
        part = [1, [2]]
        self.assertIs(errors.BadText(part).part, part)
        self.assertEqual(part, [1, [2]])

    def test_fields_are_asked_for(self):
        for name, fields in FIELDS.items():
            kind = getattr(errors, name)
            with self.assertRaises(TypeError):
                kind()
            with self.assertRaises(TypeError):
                kind(*range(len(fields) + 1))

    def test_bases(self):
        self.assertEqual(errors.OddError.__bases__, (ValueError,))
        for name in FIELDS:
            self.assertEqual(getattr(errors, name).__bases__, (errors.OddError,))

    def test_they_can_be_raised_and_caught(self):
        for name, fields in FIELDS.items():
            for base in (errors.OddError, ValueError):
                with self.assertRaises(base):
                    raise getattr(errors, name)(*fields)

    def test_no_other_errors(self):
        found = {name for name, value in vars(errors).items() if isinstance(value, type)}
        self.assertEqual(found, set(FIELDS) | {"OddError"})


if __name__ == "__main__":
    unittest.main()

"""The errors: their fields, and which class stands below which."""

import unittest

import editionlines.errors as errors
from editionlines.errors import BadInput, EditionError, NoAnswer
from tools import any_values

INPUT = {
    "BadBook": ["part"], "BadClause": ["part"], "BadDeed": ["at"], "BadFact": ["part"], "BadFix": ["value"],
    "BadHistory": ["part"], "BadLine": ["word"], "BadLiteral": ["part"], "BadLot": ["part"], "BadNeeds": ["part"],
    "BadNumber": ["value"], "BadPlace": ["part"], "BadPrice": ["value"], "BadProject": ["part"],
    "BadStanding": ["part"], "BadText": ["line", "word"], "BadWay": ["value"], "BadWeb": ["part"], "BadWish": ["part"],
    "NoDay": ["day"], "NoFix": ["fix"], "NoLine": ["line"], "NoRelease": ["number"], "Ring": ["fix"],
}
ANSWER = {"Barred": ["clause"], "Nothing": [], "TooMany": ["what", "most"], "Undone": ["at"], "Unlike": ["part"]}


class ErrorsTest(unittest.TestCase):
    def test_family(self):
        self.assertEqual(EditionError.__bases__, (ValueError,))
        self.assertEqual({kind.__name__ for kind in EditionError.__subclasses__()}, {"BadInput", "NoAnswer"})
        self.assertEqual({kind.__name__ for kind in BadInput.__subclasses__()}, set(INPUT))
        self.assertEqual({kind.__name__ for kind in NoAnswer.__subclasses__()}, set(ANSWER))
        for name, base in [(name, BadInput) for name in INPUT] + [(name, NoAnswer) for name in ANSWER]:
            kind = getattr(errors, name)
            self.assertEqual(kind.__bases__, (base,))
            self.assertEqual(kind.__subclasses__(), [])
            self.assertEqual(kind.__module__, "editionlines.errors")

    def test_fields(self):
        for name, fields in {**INPUT, **ANSWER}.items():
            kind = getattr(errors, name)
            for value in any_values():
                values = [value, "other"][:len(fields)]
                for error in (kind(*values), kind(**dict(zip(fields, values)))):
                    self.assertEqual(list(vars(error)), fields)
                    for field, told in zip(fields, values):
                        self.assertIs(getattr(error, field), told)

    def test_raised(self):
        with self.assertRaises(ValueError) as caught:
            raise errors.BadText(1, 2)
        self.assertEqual((caught.exception.line, caught.exception.word), (1, 2))
        self.assertEqual(repr(errors.Ring("a")), "Ring('a')")


if __name__ == "__main__":
    unittest.main()

"""The examples of the document: each one as it is printed there, in its order, in one namespace."""

import os
import unittest

from editionlines.compared import Parting
from editionlines.deeds import Meet
from editionlines.errors import Barred

HERE = os.path.dirname(os.path.abspath(__file__))


def examples():
    """The rows (number of the row, source, expected answer) of examples.txt."""
    found = []
    with open(os.path.join(HERE, "examples.txt"), encoding="utf-8") as file:
        for number, row in enumerate(file.read().split("\n"), 1):
            if row.startswith(">>> "):
                found.append([number, row[4:], ""])
            elif row.startswith("... "):
                found[-1][1] += "\n" + row[4:]
            elif row and not row.startswith("# "):
                found[-1][2] += row
    return found


def answer(source, names):
    """What the document would print behind a source."""
    try:
        value = eval(compile(source, "example", "eval"), names)
    except SyntaxError:
        exec(compile(source, "example", "exec"), names)
        return ""
    except ValueError as error:
        # What the document tells of an error with an object in it is its name alone.
        return "raises Barred" if isinstance(error, Barred) else f"raises {error!r}"
    return "" if value is None else repr(value)


class ExamplesTest(unittest.TestCase):
    def test_all(self):
        # The document uses these two without having imported them.
        names = {"Meet": Meet, "Parting": Parting}
        rows = examples()
        self.assertEqual(len(rows), 193)
        for number, source, expected in rows:
            with self.subTest(row=number, source=source):
                self.assertEqual(answer(source, names), expected)


if __name__ == "__main__":
    unittest.main()

"""The numbers of releases."""

import itertools
import unittest

from editionlines.errors import BadNumber
from editionlines.numbers import Number
from tools import EditionTest, any_values


class NumberTest(EditionTest):
    def test_made(self):
        for line, at in itertools.product((1, 6), (0, 59)):
            for number in (Number(line, at), Number(line=line, at=at)):
                self.assertEqual((number.line, number.at), (line, at))
        for line in (0, 7, -1):
            self.refuses(BadNumber(line), Number, line, 60)
        for at in (-1, 60):
            self.refuses(BadNumber(at), Number, 1, at)
        for value in any_values():
            if type(value) is not int or value not in (1, 2):
                self.refuses(BadNumber(value), Number, value, None)
            if type(value) is not int or value not in (0, 1, 2, 7, 59):
                self.refuses(BadNumber(value), Number, 1, value)

    def test_order(self):
        pairs = list(itertools.product((1, 2, 6), (0, 1, 9, 10, 59)))
        for one, other in itertools.product(pairs, repeat=2):
            a, b = Number(*one), Number(*other)
            told = [a < b, a <= b, a > b, a >= b, a == b, a != b]
            self.assertEqual(told, [one < other, one <= other, one > other, one >= other, one == other, one != other])
        number = Number(1, 0)
        for value in any_values():
            if type(value) is not Number:
                for call in (lambda: number < value, lambda: number <= value, lambda: number > value,
                             lambda: number >= value):
                    self.refuses(BadNumber(value), call)
                self.assertFalse(number == value)

    def test_further(self):
        self.assertEqual([str(Number(2, 3) + k) for k in (0, 1, 56)], ["2.3", "2.4", "2.59"])
        self.refuses(BadNumber(57), lambda: Number(2, 3) + 57)
        for value in any_values():
            if type(value) is not int or value not in (0, 1, 2):
                self.refuses(BadNumber(value), lambda: Number(6, 57) + value)

    def test_texts(self):
        self.holds_both_ways(Number.read, [f"{line}.{at}" for line in range(1, 7) for at in range(60)])
        self.refuses_no_texts(Number.read)
        self.refuses_words(Number.read, [
            ("", 0), ("1", 0), ("1.", 0), (".1", 0), ("0.1", 0), ("7.1", 0), ("1.60", 0), ("1.00", 0), ("01.0", 0),
            ("1.-0", 0), ("1.-1", 0), ("1.0.0", 0), ("1,0", 0), ("1. 0", 0), ("1.0 ", 1), ("1.0 1.0", 1), (" 1.0", 0), ("-", 0),
            ("1." + "9" * 5000, 0), ("+1.0", 0),
        ])
        self.looks_at_spoilt(Number.read, "2.13")


if __name__ == "__main__":
    unittest.main()

"""Lots."""

import itertools
import unittest

from editionlines.errors import BadFix, BadLot, BadText, TooMany
from editionlines.lots import Lot
from tools import EditionTest, any_values

FIXES = ["a", "b", "c"]
EIGHT = list("abcdefgh")


class LotTest(EditionTest):
    def test_made(self):
        self.assertEqual(Lot.MOST, 8)
        for some in itertools.product(FIXES, repeat=3):
            self.assertEqual(Lot(*some).fixes, tuple(sorted(set(some))))
            self.assertEqual(Lot(*some), Lot.of(list(some)))
            self.assertEqual(Lot(*some), Lot.of(tuple(some)))
        self.assertEqual(Lot().fixes, ())
        self.assertEqual(Lot("b", "aa", "a").fixes, ("a", "aa", "b"))

    def test_wrong_fixes(self):
        for value in any_values():
            if not (isinstance(value, str) and value in ("f", "g", "cut", "abcdefgh")):
                self.refuses(BadFix(value), Lot, value)
                self.refuses(BadFix(value), Lot, "a", value, None)
                self.refuses(BadFix(value), Lot, *EIGHT, "i", value)
                self.refuses(BadFix(value), Lot.of, ["a", value, "B"])
            if not isinstance(value, (list, tuple)):
                self.refuses(BadLot("fixes"), Lot.of, value)

    def test_many(self):
        self.assertEqual(len(Lot(*EIGHT, "a", "h")), 8)
        self.refuses(TooMany("fixes", 8), Lot, *EIGHT, "i")
        self.refuses(TooMany("fixes", 8), Lot.of, EIGHT + ["i"])

    def test_later_changes(self):
        rows = ["b", "a"]
        lot = Lot.of(rows)
        rows.append("c")
        self.assertEqual(lot.fixes, ("a", "b"))
        self.assertEqual(rows, ["b", "a", "c"])

    def test_as_a_row(self):
        lot = Lot("c", "a", "b")
        self.assertEqual([len(lot), list(lot), lot[0], lot[-1], bool(Lot()), bool(lot)], [3, FIXES, "a", "c", False, True])
        for at in (3, -4):
            self.assertRaises(IndexError, lambda: lot[at])
        for cut in (slice(1), slice(1, None), slice(None, None, -1), slice(5, 9), slice(0, 3, 2)):
            self.assertEqual(lot[cut], Lot(*FIXES[cut]))
            self.assertIs(type(lot[cut]), Lot)
        for value in any_values():
            self.assertIs(value in Lot("f", "cut"), value in ("f", "cut") if isinstance(value, str) else False)

    def test_operators(self):
        subsets = [some for many in range(4) for some in itertools.combinations(FIXES, many)]
        for one, other in itertools.product(subsets, repeat=2):
            left, right, a, b = Lot(*one), Lot(*other), set(one), set(other)
            for found, expected in ((left | right, a | b), (left & right, a & b), (left - right, a - b),
                                    (left ^ right, a ^ b)):
                self.assertEqual(found.fixes, tuple(sorted(expected)))
                self.assertIs(type(found), Lot)
            told = [left <= right, left < right, left >= right, left > right, left == right, left != right]
            self.assertEqual(told, [a <= b, a < b, a >= b, a > b, a == b, a != b])
            self.assertTrue(all(type(each) is bool for each in told))
            self.assertEqual((left.fixes, right.fixes), (one, other))

    def test_operators_refuse(self):
        lot = Lot("a")
        for value in any_values():
            if type(value) is not Lot:
                for call in (lambda: lot | value, lambda: lot & value, lambda: lot - value, lambda: lot ^ value,
                             lambda: lot <= value, lambda: lot < value, lambda: lot >= value, lambda: lot > value):
                    self.refuses(BadLot("other"), call)
                self.assertFalse(lot == value)
                self.assertTrue(lot != value)
        full, more = Lot(*EIGHT), Lot("i")
        self.refuses(TooMany("fixes", 8), lambda: full | more)
        self.refuses(TooMany("fixes", 8), lambda: full ^ more)
        self.assertEqual([full & more, full - more, full | lot], [Lot(), full, full])
        self.assertEqual(full ^ Lot("a", "i"), Lot(*EIGHT[1:], "i"))

    def test_texts(self):
        self.holds_both_ways(Lot.read, ["-", "a", "a b", "a aa b", " ".join(EIGHT)])
        self.refuses_no_texts(Lot.read)
        self.refuses_words(Lot.read, [
            ("", 0), (" ", 0), ("a ", 1), (" a", 0), ("a  b", 1), ("A", 0), ("a B", 1), ("b a", 1), ("a a", 1), ("a b a", 2),
            ("- a", 1), ("a -", 1), ("- -", 1), ("a abcdefghi", 1), (" ".join(EIGHT) + " i", 8), (" ".join(EIGHT) + " x y", 8),
            ("a ; b", 1), ("a\nb", 0), ("a, b", 0),
        ])
        for text in ("-", "a b c", " ".join(EIGHT)):
            self.looks_at_spoilt(Lot.read, text, ["a", "i", ";"])


if __name__ == "__main__":
    unittest.main()

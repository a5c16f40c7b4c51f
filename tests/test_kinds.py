"""Kinds and features."""

import itertools
import unittest

from editionlines.errors import BadStanding
from editionlines.kinds import FEATURES, Kind, closed
from tools import EditionTest, any_values

DAYS = [()] + [(a,) for a in (1, 2)] + list(itertools.product((1, 2), repeat=2))
KINDS = [(fixes, lines, days) for fixes in range(3) for lines in range(3) for days in DAYS if max(days, default=0) <= lines]


class KindTest(EditionTest):
    def test_made(self):
        for fixes, lines, days in KINDS:
            for kind in (Kind(fixes, lines, days), Kind(fixes, lines, list(days)), Kind(fixes=fixes, lines=lines, days=days)):
                self.assertEqual((kind.fixes, kind.lines, kind.days), (fixes, lines, days))
        self.assertEqual(Kind(1, 2).days, ())

    def test_errors(self):
        for value in any_values():
            is_small = type(value) is int and 0 <= value <= 2
            if not is_small:
                self.refuses(BadStanding("fixes"), Kind, value, None, None)
                self.refuses(BadStanding("lines"), Kind, 1, value, None)
            if not isinstance(value, (list, tuple)) or (value and value not in ([1], (1,))):
                self.refuses(BadStanding("days"), Kind, 1, 1, value)
            if not (is_small and value > 0):
                self.refuses(BadStanding("days"), Kind, 2, 2, [1, value])
        for days in ((2,), (0,), (1, 1, 1), (1, 2), (True,)):
            self.refuses(BadStanding("days"), Kind, 0, 1, days)
        self.refuses(BadStanding("days"), Kind, 0, 0, (1,))
        self.refuses(BadStanding("fixes"), Kind, 3, 3, 3)
        self.refuses(BadStanding("lines"), Kind, 2, 3, 3)

    def test_order(self):
        for one, other in itertools.product(KINDS, repeat=2):
            expected = one[0] <= other[0] and one[1] <= other[1] and other[2][:len(one[2])] == one[2]
            self.assertIs(Kind(*one) <= Kind(*other), expected)
            self.assertEqual(Kind(*one) == Kind(*other), one == other)
        for value in any_values():
            if type(value) is not Kind:
                self.refuses(BadStanding("other"), lambda: Kind(0, 0) <= value)
            self.assertEqual(Kind(0, 0) == value, type(value) is Kind)

    def test_texts(self):
        for kind in KINDS:
            self.assertEqual(Kind.read(str(Kind(*kind))), Kind(*kind))
        self.holds_both_ways(Kind.read, ["kind 0 0", "kind 2 1 1", "kind 1 2 2 1"])
        self.refuses_no_texts(Kind.read)
        self.refuses_words(Kind.read, [
            ("", 0), ("kind", 1), ("kinds 1 1", 0), ("kind 1", 2), ("kind 3 1", 1), ("kind 1 3", 2), ("kind 1 0 1", 3),
            ("kind 1 1 2", 3), ("kind 1 2 0", 3), ("kind 1 2 1 2 1", 5), ("kind 1 2 ", 3), ("kind 01 2", 1), ("kind 1 2 1 3", 4),
            ("kind -1 2", 1), ("kind 1 -1", 2),
        ])
        for text in ("kind 0 0", "kind 1 2 1 2", "kind 2 1 1"):
            self.looks_at_spoilt(Kind.read, text, ["1", "2", "3", "kind"])

    def test_later_changes(self):
        days = [1]
        kind = Kind(0, 1, days)
        days.append(1)
        self.assertEqual(kind.days, (1,))


class ClosedTest(EditionTest):
    def test_features(self):
        self.assertEqual(FEATURES, ("open", "past", "last", "live", "tries"))

    def test_closed(self):
        wants = {"open": [], "past": ["last"], "last": [], "live": ["last"], "tries": ["live", "last"]}
        for many in range(6):
            for words in itertools.permutations(FEATURES, many):
                told = set(words) | {feature for word in words for feature in wants[word]}
                self.assertEqual(closed(words), tuple(feature for feature in FEATURES if feature in told))
                self.assertEqual(closed(closed(words)), closed(words))
        self.assertEqual(closed(("live", "live")), ("last", "live"))

    def test_errors(self):
        for value in any_values():
            if value != () or not isinstance(value, tuple):
                self.refuses(BadStanding("features"), closed, value)
            if not (isinstance(value, str) and value in FEATURES):
                self.refuses(BadStanding("features"), closed, ("open", value))
        self.refuses(BadStanding("features"), closed, ["open"])


if __name__ == "__main__":
    unittest.main()

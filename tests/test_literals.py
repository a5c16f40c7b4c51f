"""Literals."""

import unittest

from editionlines.clauses import Case
from editionlines.errors import BadLiteral, NoDay, NoFix, NoLine
from editionlines.literals import Literal
from test_grounds import BUSY, DAY, PER_FIX, PLACE, TWO
from tools import EditionTest, any_values

SAID = {"own": PLACE, "main": PLACE, "mate": PLACE + TWO, "other": PLACE + TWO, "day": DAY}
FEATURES = {"open": ["open", "ended"], "past": ["shipped", "missed"], "last": ["gives", "omits"],
            "live": ["up", "runs", "bares", "fresh", "alike"], "tries": ["tried", "probed", "backed", "met"]}


def feature_of(word):
    for feature, words in FEATURES.items():
        if word in words or word.removeprefix("un") in words:
            return feature
    return None


class LiteralTest(EditionTest):
    def test_made(self):
        for who, words in SAID.items():
            for word in words:
                for literal in (Literal(who, word), Literal(who=who, word=word)):
                    self.assertEqual((literal.who, literal.word), (who, word))
                    self.assertIs(literal.per_fix, word in PER_FIX)
                    self.assertEqual(literal.feature, feature_of(word))
                    self.assertEqual(str(literal), f"{who} {word}")
                    self.assertEqual(~~literal, literal)
                    opposite = {"has": "lacks", "lacks": "has", "open": "ended", "ended": "open"}.get(
                        word, word[2:] if word.startswith("un") else "un" + word)
                    self.assertEqual(~literal, Literal(who, opposite))
                    self.assertNotEqual(~literal, literal)

    def test_errors(self):
        for value in any_values():
            self.refuses(BadLiteral("who"), Literal, value, value)
            self.refuses(BadLiteral("who"), Literal, value, "has")
            for who in SAID:
                self.refuses(BadLiteral("word"), Literal, who, value)
        for who, words in SAID.items():
            for word in PLACE + TWO + DAY:
                if word not in words:
                    self.refuses(BadLiteral("word"), Literal, who, word)

    def test_equal(self):
        for value in any_values():
            self.assertEqual(Literal("own", "open") == value, type(value) is Literal)
        self.assertNotEqual(Literal("own", "open"), Literal("main", "open"))
        self.assertNotEqual(Literal("own", "open"), Literal("own", "ended"))

    def test_texts(self):
        self.holds_both_ways(Literal.read, [f"{who} {word}" for who, words in SAID.items() for word in words])
        self.refuses_no_texts(Literal.read)
        self.refuses_words(Literal.read, [
            ("", 0), ("own", 1), ("own ", 1), ("we has", 0), ("own tried", 1), ("main met", 1), ("day has", 1), ("own keeps", 1),
            ("mate alike", 1), ("own has f", 2), ("own has ", 2), (" own has", 0), ("Own has", 0), ("own shut", 1),
            ("day open", 1),
        ])
        for text in ("own has", "other tried", "day keeps"):
            self.looks_at_spoilt(Literal.read, text, ["mate", "up", "met", "shut"])

    def test_asked(self):
        rows = [
            ("own runs", Case(1, "f", None, None), True), ("own runs", Case(1, "g", None, None), False),
            ("own has", Case(0, "f", None, None), True), ("main has", Case(3, "g", None, None), False),
            ("main open", Case(2, None, None, None), True), ("other ended", Case(1, None, 2, None), True),
            ("mate gives", Case(1, "f", 2, None), True), ("mate probed", Case(1, None, 2, None), True),
            ("other probed", Case(2, None, 1, None), False), ("other backed", Case(2, None, 1, None), True),
            ("other met", Case(0, None, 1, None), False), ("other unmet", Case(0, None, 1, None), True),
            ("other has", Case(1, "f", "g", None), False), ("other shipped", Case(1, "g", "f", None), True),
            ("other has", Case(0, "g", "f", None), True), ("other up", Case(2, "g", "f", None), True),
            ("day keeps", Case(2, "g", None, 2), True), ("day keeps", Case(1, "g", "f", 1), False),
            ("day shut", Case(2, None, None, 2), True), ("day unalike", Case(1, "f", None, 1), False),
        ]
        for text, case, expected in rows:
            with self.subTest(text=text):
                literal = Literal.read(text)
                self.assertIs(literal(BUSY, case), expected)
                self.assertIs((~literal)(BUSY, case), not expected)

    def test_main_beside_lines(self):
        for word in TWO:
            for other in (1, 2, 3):
                self.assertIs(Literal("other", word)(BUSY, Case(0, None, other, None)), word.startswith("un"))
            self.refuses(NoLine(4), Literal("other", word), BUSY, Case(0, None, 4, None))
            self.refuses(NoLine(0), Literal("other", word), BUSY, Case(0, None, 0, None))

    def test_raises_what_the_view_raises(self):
        self.refuses(NoLine(4), Literal("own", "up"), BUSY, Case(4, None, None, None))
        self.refuses(NoFix(None), Literal("own", "has"), BUSY, Case(1, None, None, None))
        self.refuses(NoFix("z"), Literal("main", "has"), BUSY, Case(1, "z", None, None))
        self.refuses(NoLine(None), Literal("other", "met"), BUSY, Case(1, None, None, None))
        self.refuses(NoLine(1), Literal("mate", "met"), BUSY, Case(1, None, 1, None))
        self.refuses(NoDay(None), Literal("day", "shut"), BUSY, Case(1, None, None, None))
        self.refuses(NoFix("z"), Literal("other", "has"), BUSY, Case(1, "f", "z", None))


if __name__ == "__main__":
    unittest.main()

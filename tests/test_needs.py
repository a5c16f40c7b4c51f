"""Needs."""

import unittest

from editionlines.errors import BadFix, BadLot, BadNeeds, Ring, TooMany
from editionlines.lots import Lot
from editionlines.needs import Needs
from tools import EditionTest, any_values, randoms

EIGHT = list("abcdefgh")
CHAIN = {"a": ["b"], "b": ("c",), "d": ["c", "a"]}


def is_parts(value):
    return isinstance(value, dict) and all(isinstance(items, (list, tuple)) for items in value.values())


class NeedsTest(EditionTest):
    def test_made(self):
        needs = Needs(CHAIN)
        self.assertEqual(list(needs), [("a", "b"), ("b", "c"), ("d", "a"), ("d", "c")])
        self.assertEqual(len(needs), 4)
        self.assertEqual(list(Needs()), [])
        self.assertEqual(Needs(None), Needs({}))
        self.assertEqual(Needs({"a": []}), Needs())
        self.assertEqual(list(Needs({"b": ["a", "a"], "a": ()})), [("b", "a")])
        self.assertIs(bool(Needs()), True)
        self.assertEqual(Needs(parts=CHAIN), needs)

    def test_wrong_parts(self):
        for value in any_values():
            if value is not None and not is_parts(value):
                self.refuses(BadNeeds("parts"), Needs, value)
            if not isinstance(value, (list, tuple)):
                self.refuses(BadNeeds("parts"), Needs, {"a": ["b"], "c": value})
                self.refuses(BadNeeds("parts"), Needs, {1: ["B"], "c": value})
            if not (isinstance(value, str) and value in ("f", "g", "cut", "abcdefgh")):
                self.refuses(BadFix(value), Needs, {"a": ["b", value], "c": [None]})
                if value.__hash__ is not None and value not in ((1, "f"),):
                    self.refuses(BadFix(value), Needs, {"a": ["B"], value: ["c"]})

    def test_errors_in_order(self):
        self.refuses(BadFix(1), Needs, {"a": [2], 1: []})
        self.refuses(BadFix(2), Needs, {"b": [2], "a": [3]})
        self.refuses(BadFix(9), Needs, {"a": EIGHT, "i": [9]})
        self.refuses(TooMany("fixes", 8), Needs, {"a": EIGHT, "i": []})
        self.refuses(TooMany("fixes", 8), Needs, {"i": EIGHT})
        self.refuses(TooMany("fixes", 8), Needs, {**{fix: [] for fix in EIGHT}, "i": ["i"]})
        self.refuses(Ring("a"), Needs, {"a": EIGHT})
        self.assertEqual(len(Needs({"a": EIGHT[1:]})), 7)

    def test_rings(self):
        self.refuses(Ring("f"), Needs, {"f": ["f"]})
        self.refuses(Ring("b"), Needs, {"c": ["b"], "b": ["c"], "a": ["b"]})
        self.refuses(Ring("a"), Needs, {"b": ["a"], "a": ["c"], "c": ["b"]})
        self.refuses(Ring("c"), Needs, {"a": ["b"], "b": ["c"], "d": ["c"], "c": ["d"]})
        self.refuses(Ring("d"), Needs, {"h": ["g"], "g": ["h"], "d": ["e"], "e": ["f"], "f": ["d"]})

    def test_rings_at_random(self):
        held = 0
        for rng in randoms("needs", 300):
            pairs = [(rng.choice("abcd"), rng.choice("abcd")) for _ in range(rng.randint(0, 5))]
            parts = {}
            for fix, item in pairs:
                parts.setdefault(fix, []).append(item)
            reach = {(fix, item) for fix, item in pairs}
            for _ in range(4):
                reach |= {(a, d) for a, b in reach for c, d in reach if b == c}
            rings = sorted(fix for fix in "abcd" if (fix, fix) in reach)
            if rings:
                self.refuses(Ring(rings[0]), Needs, parts)
                continue
            held += 1
            needs = Needs(parts)
            self.assertEqual(list(needs), sorted(set(pairs)))
            self.assertEqual(Needs.read(str(needs)), needs)
            for fix in "abcd":
                self.assertEqual(list(needs[fix]), sorted({item for one, item in pairs if one == fix}))
                self.assertEqual(list(needs.users(fix)), sorted({one for one, item in pairs if item == fix}))
                self.assertEqual(list(needs.all_of(Lot(fix))), sorted({fix} | {d for c, d in reach if c == fix}))
                lot = Lot(*rng.sample("abcd", 2))
                self.assertEqual(list(needs.only(lot)), [pair for pair in needs if pair[0] in lot and pair[1] in lot])
        self.assertGreater(held, 50)

    def test_asked(self):
        needs = Needs(CHAIN)
        self.assertEqual([str(needs[fix]) for fix in "abcdz"], ["b", "c", "-", "a c", "-"])
        self.assertEqual([str(needs.users(fix)) for fix in "abcdz"], ["d", "a", "b d", "-", "-"])
        self.assertEqual(str(needs.all_of(Lot("d", "z"))), "a b c d z")
        self.assertEqual(str(needs.all_of(Lot())), "-")
        self.assertEqual(str(needs.only(Lot("d", "c", "b"))), "b : c ; d : c")
        for value in any_values():
            if not (isinstance(value, str) and value in ("f", "g", "cut", "abcdefgh")):
                self.refuses(BadFix(value), lambda: needs[value])
                self.refuses(BadFix(value), needs.users, value)
            if type(value) is not Lot:
                self.refuses(BadLot("lot"), needs.all_of, value)
                self.refuses(BadLot("lot"), needs.only, value)
            self.assertIs(value in Needs({"f": ["g"]}), value == ("f", "g") and type(value) is tuple)
        self.assertNotIn(["a", "b"], needs)
        self.assertNotIn(("b", "a"), needs)

    def test_all_of_too_many(self):
        needs = Needs({"a": EIGHT[1:]})
        self.assertEqual(len(needs.all_of(Lot("a"))), 8)
        self.refuses(TooMany("fixes", 8), needs.all_of, Lot("a", "z"))
        self.assertEqual(str(needs.all_of(Lot("z"))), "z")

    def test_equal(self):
        self.assertEqual(Needs({"a": ["b", "c"]}), Needs({"a": ("c", "b", "c")}))
        self.assertNotEqual(Needs({"a": ["b"]}), Needs({"b": ["a"]}))
        for value in any_values():
            self.assertEqual(Needs() == value, type(value) is Needs and len(value) == 0)

    def test_later_changes(self):
        parts = {"a": ["b"]}
        needs = Needs(parts)
        parts["a"].append("c")
        parts["d"] = ["e"]
        self.assertEqual(str(needs), "a : b")

    def test_texts(self):
        eight = "a : b c d e f g h"
        self.holds_both_ways(Needs.read, ["-", "a : b", "a : b c", "a : b ; b : c", "h : f g ; i : a", eight])
        self.refuses_no_texts(Needs.read)
        self.refuses_words(Needs.read, [
            ("", 0), ("a", 1), ("a :", 2), ("a : ", 2), ("a : b ;", 4), ("a : b ; ", 4), ("a : b ; b", 5), ("a : b ; b :", 6),
            ("a: b", 0), ("a : B", 2), ("A : b", 0), ("a : b a", 3), ("a : b b", 3), ("a : c b", 3), ("a : b ; a : c", 4),
            ("b : c ; a : c", 4), ("- a", 1), ("a : -", 2), ("a : b -", 3), ("a : b : c", 3), ("a b : c", 1),
            ("a : b c d e f g h i j", 10), ("a : b c d e f g h i ; j", 12), ("a : b ; - : c", 4), (" a : b", 0),
        ])
        self.refuses(Ring("a"), Needs.read, "a : a")
        self.refuses(Ring("a"), Needs.read, "a : b ; b : a")
        self.refuses(TooMany("fixes", 8), Needs.read, "a : b c d e f g h i")
        self.refuses(TooMany("fixes", 8), Needs.read, eight + " ; i : b")
        for text in ("-", "b : a ; d : a b", eight):
            self.looks_at_spoilt(Needs.read, text, ["a", "c", "z", ":", ";"])


if __name__ == "__main__":
    unittest.main()

"""Deeds."""

import itertools
import unittest

import editionlines.deeds as deeds
from editionlines.deeds import (Carry, Cut, Day, Deed, Down, Drop, End, Fix, Live, Meet, Merge, Night, OfDay, OfMany,
                                OfTwo, Offer, OnLine, OnMain, Probe, Redo, Renew, Rise, Shut, Try, Unfix)
from editionlines.errors import BadDeed, BadFix, BadText, NoDay, NoLine
from editionlines.lots import Lot
from tools import EditionTest, any_values, randoms, refused_at, same

KINDS = ("fix", "unfix", "carry", "drop", "merge", "cut", "end", "offer", "try", "probe", "meet", "live", "rise", "down",
         "day", "night", "redo", "renew", "shut")
# Of each class: its bases, its parameters without a stop, and whether it has one.
FAMILY = {
    Fix: ((OnMain,), ("fix",), False), Unfix: ((OnMain,), ("fix",), False), Cut: ((OnMain,), (), False),
    Carry: ((OnLine,), ("fix", "line"), False), Drop: ((OnLine,), ("fix", "line"), False),
    End: ((OnLine,), ("line",), False), Offer: ((OnLine,), ("line",), False), Live: ((OnLine,), ("line",), False),
    Down: ((OnLine,), ("line",), False), Day: ((OnLine,), ("line",), False),
    Merge: ((OnLine, OfMany), ("line",), True), Try: ((OfTwo,), ("line", "mate"), False),
    Probe: ((OfTwo,), ("line", "mate"), False), Meet: ((OfTwo,), ("line", "mate"), False),
    Rise: ((OfMany,), ("lines",), True), Night: ((OfMany,), ("lines",), True), Redo: ((OfDay,), ("day",), False),
    Shut: ((OfDay,), ("day",), False), Renew: ((OfDay, OfMany), ("days",), True),
}
TEXTS = ["fix f", "unfix abcdefgh", "carry f 1", "drop g 6", "merge 1", "merge 6 to f", "cut", "end 1", "offer 2",
         "try 1 2", "try 5 6", "probe 1 6", "probe 6 1", "meet 1 6", "live 3", "rise 1", "rise 6", "rise 1 3",
         "rise 1 3 to 1", "rise 1 2 3 4 5 6 to 5", "down 4", "day 5", "night 1", "night 1 2 3 to 2", "redo 1", "redo 200",
         "renew 200", "renew 2 5", "renew 2 5 to 2", "renew 1 100 200 to 100", "shut 1", "shut 200"]


def is_line(value):
    return type(value) is int and 1 <= value <= 6


def is_day(value):
    return type(value) is int and 1 <= value <= 200


class FamilyTest(EditionTest):
    def test_classes(self):
        self.assertEqual(Deed.KINDS, KINDS)
        groups = (OnMain, OnLine, OfTwo, OfMany, OfDay)
        for kind in groups:
            self.assertEqual(kind.__bases__, (Deed,))
        for kind, (bases, _, _) in FAMILY.items():
            self.assertEqual(set(kind.__bases__), set(bases))
            self.assertEqual([group for group in groups if issubclass(kind, group)],
                             [group for group in groups if group in bases])
            self.assertEqual((kind.KIND, kind.KINDS), (kind.__name__.lower(), KINDS))
            self.assertEqual(kind.__module__, deeds.__name__)
        self.assertEqual({kind.KIND for kind in FAMILY}, set(KINDS))

    def test_made_by_position_and_by_name(self):
        rows = [(Fix, ("f",)), (Unfix, ("g",)), (Carry, ("f", 2)), (Drop, ("f", 6)), (End, (1,)), (Offer, (6,)),
                (Live, (1,)), (Down, (2,)), (Day, (3,)), (Merge, (4,)), (Try, (1, 2)), (Probe, (2, 1)), (Meet, (5, 6)),
                (Redo, (200,)), (Shut, (1,)), (Cut, ())]
        for kind, told in rows:
            names = FAMILY[kind][1]
            for deed in (kind(*told), kind(**dict(zip(names, told)))):
                self.assertEqual(tuple(getattr(deed, name) for name in names), told)
                self.assertEqual(str(deed), " ".join([kind.KIND, *map(str, told)]))
                self.assertEqual(Deed.read(str(deed)), deed)
        self.assertEqual([Merge(1).upto, Merge(1, "f").upto, Merge(line=1, upto="g").upto], [None, "f", "g"])
        for kind, name in ((Rise, "lines"), (Night, "lines"), (Renew, "days")):
            self.assertEqual([getattr(kind(1, 2, 5), name), kind(1, 2, 5).upto], [(1, 2, 5), None])
            self.assertEqual([getattr(kind(3, 5, upto=3), name), kind(3, 5, upto=3).upto], [(3, 5), 3])

    def test_equal(self):
        for one, other in itertools.product(TEXTS + ["fix g", "renew 2 5 to 2", "unfix f"], repeat=2):
            self.assertEqual(Deed.read(one) == Deed.read(other), one == other)
            self.assertEqual(Deed.read(one) != Deed.read(other), one != other)
        for value in any_values():
            self.assertEqual(Fix("f") == value, isinstance(value, Fix))
            self.assertEqual(Night(1, 2) == value, isinstance(value, Night))
        self.assertNotEqual(Merge(1), Merge(1, "f"))
        self.assertNotEqual(Redo(1), Renew(1))


class ErrorsTest(EditionTest):
    def test_fixes(self):
        for value in any_values():
            if not (isinstance(value, str) and value in ("f", "g", "cut", "abcdefgh")):
                for kind in (Fix, Unfix):
                    self.refuses(BadFix(value), kind, value)
                for kind in (Carry, Drop):
                    self.refuses(BadFix(value), kind, value, 1)
                    self.refuses(BadFix(value), kind, value, value)
                if value is not None:
                    self.refuses(BadFix(value), Merge, 1, value)
                    self.refuses(BadFix(value), Merge, line=6, upto=value)

    def test_lines(self):
        for value in any_values() + [6, 3]:
            if not is_line(value):
                for kind in (End, Offer, Live, Down, Day, Merge):
                    self.refuses(NoLine(value), kind, value)
                for kind in (Carry, Drop):
                    self.refuses(NoLine(value), kind, "f", value)
                self.refuses(NoLine(value), Merge, value, value)
                for kind in (Try, Probe, Meet):
                    self.refuses(NoLine(value), kind, value, None)
                    self.refuses(NoLine(value), kind, 1, value)

    def test_mates(self):
        for line, mate in itertools.product(range(1, 7), repeat=2):
            for kind in (Try, Meet):
                if mate <= line:
                    self.refuses(NoLine(mate), kind, line, mate)
                else:
                    self.assertEqual(kind(line, mate).mate, mate)
            if line == mate:
                self.refuses(NoLine(mate), Probe, line, mate)
            else:
                self.assertEqual(Probe(line, mate).mate, mate)

    def test_days(self):
        for value in any_values() + [200]:
            if not is_day(value):
                for kind in (Redo, Shut):
                    self.refuses(NoDay(value), kind, value)
        self.refuses(NoDay(201), Redo, 201)
        self.refuses(NoDay(0), Shut, 0)

    def test_many(self):
        for kind, error, most in ((Rise, NoLine, 6), (Night, NoLine, 6), (Renew, NoDay, 200)):
            self.refuses(BadDeed(None), kind)
            self.refuses(BadDeed(None), kind, upto=1)
            for value in any_values():
                if type(value) is not int or not 1 <= value <= most:
                    self.refuses(error(value), kind, value)
                    self.refuses(error(value), kind, 1, value, None)
                    self.refuses(error(value), kind, value, 0, upto="x")
                if value is not None and not same(value, 1):
                    self.refuses(error(value), kind, 1, 5, 6, upto=value)
                if value is not None:
                    self.refuses(error(value), kind, 5, upto=value)
            self.refuses(error(1), kind, 1, 1)
            self.refuses(error(1), kind, 2, 1)
            self.refuses(error(2), kind, 1, 3, 2, 2)
            self.refuses(error(most + 1), kind, most, most + 1)
            self.refuses(error(3), kind, 1, 3, upto=3)
            self.refuses(error(5), kind, 5, upto=5)
            self.refuses(error(2), kind, 1, 3, upto=2)
            self.refuses(error(1), kind, 2, 1, upto=9)


class TextsTest(EditionTest):
    def test_both_ways(self):
        self.holds_both_ways(Deed.read, TEXTS)
        self.refuses_no_texts(Deed.read)
        for kind in FAMILY:
            self.assertEqual(kind.read("cut"), Cut())

    def test_wrong_words(self):
        self.refuses_words(Deed.read, [
            ("", 0), (" ", 0), ("fixes f", 0), ("Fix f", 0), (" fix f", 0), ("fix", 1), ("fix ", 1), ("fix F", 1),
            ("fix f ", 2), ("fix f f", 2), ("fix abcdefghi", 1), ("carry f", 2), ("carry 1 f", 1), ("carry f 0", 2),
            ("carry f 7", 2), ("carry f 01", 2), ("drop f 1 1", 3), ("cut 1", 1), ("cut ", 1), ("end", 1), ("end x", 1),
            ("merge", 1), ("merge 7", 1), ("merge 1 f", 2), ("merge 1 to", 3), ("merge 1 to 1", 3), ("merge 1 to f g", 4),
            ("try", 1), ("try 1", 2), ("try 6", 2), ("try 6 6", 2), ("try 1 1", 2), ("try 2 1", 2), ("try 1 7", 2),
            ("try 1 2 3", 3), ("meet 3 2", 2), ("probe 2 2", 2), ("probe 2 0", 2), ("probe 7 1", 1), ("probe 1 2 to", 3),
            ("rise", 1), ("rise to", 1), ("rise 0", 1), ("rise 1 1", 2), ("rise 2 1", 2), ("rise 6 7", 2), ("rise 1 to 1", 2),
            ("rise 1 2 to", 4), ("rise 1 2 to 2", 4), ("rise 1 3 to 2", 4), ("rise 1 2 to 01", 4), ("rise 1 2 to 1 2", 5),
            ("rise 1 2 to 1 to 1", 5), ("night 1 2 f", 3), ("night 1 2 to f", 4), ("redo 0", 1), ("redo 201", 1),
            ("redo 1 2", 2), ("renew 200 201", 2), ("renew 5 5", 2), ("renew 1 to 1", 2), ("renew 3 9 to 9", 4),
            ("shut", 1), ("shut -1", 1), ("shut 1\n", 1), ("live 1, cut", 1), ("day " + "9" * 5000, 1),
        ])

    def test_spoilt(self):
        for text in TEXTS:
            self.looks_at_spoilt(Deed.read, text, ["1", "3", "200", "cut", "rise"])

    def test_beside_a_list_of_all_texts(self):
        # The words of deeds are fixes, too.
        fixes, lines, days = ["f", "g", "to", *KINDS], [str(k) for k in range(1, 7)], ["1", "2", "3"]
        every = {("cut",)}
        for fix in fixes:
            every |= {("fix", fix), ("unfix", fix)}
            every |= {(kind, fix, line) for kind in ("carry", "drop") for line in lines}
            every |= {("merge", line, "to", fix) for line in lines}
        every |= {(kind, line) for kind in ("merge", "end", "offer", "live", "down", "day") for line in lines}
        every |= {("probe", one, two) for one in lines for two in lines if one != two}
        every |= {(kind, one, two) for kind in ("try", "meet") for one in lines for two in lines if one < two}
        every |= {(kind, day) for kind in ("redo", "shut") for day in days}
        for kinds, things in ((("rise", "night"), lines), (("renew",), days)):
            for many in range(1, len(things) + 1):
                for some in itertools.combinations(things, many):
                    every |= {(kind, *some) for kind in kinds}
                    every |= {(kind, *some, "to", stop) for kind in kinds for stop in some[:-1]}
        # Line 6 is no line that cannot be named: it only has no newer mate.
        heads = {words[:k] for words in every for k in range(len(words) + 1)} | {("try", "6"), ("meet", "6")}
        vocabulary = fixes * 2 + ["f", "g"] * 4 + lines * 3 + days * 4 + ["to"] * 8 + ["0", "x9", ""]
        told = {}
        for rng in randoms("deed texts", 6):
            for _ in range(6000):
                words = list(rng.choice(sorted(every))) if rng.random() < 0.7 else []
                for _ in range(rng.randint(1, 4)):
                    words.insert(rng.randint(0, len(words)), rng.choice(vocabulary))
                    if rng.random() < 0.5:
                        words.pop(rng.randrange(len(words)))
                if not words or (words[0] == "renew" and set(words) & {"4", "5", "6"}) or \
                        (words[0] in ("redo", "shut") and set(words[1:2]) & {"4", "5", "6"}):
                    continue
                at = 0
                while at < len(words) and tuple(words[:at + 1]) in heads:
                    at += 1
                expected = None if tuple(words) in every else at
                self.assertEqual(refused_at(Deed.read, " ".join(words)), expected, words)
                told[expected] = told.get(expected, 0) + 1
        self.assertGreater(min(told[at] for at in (None, 0, 1, 2, 3, 4, 5)), 20)


class OwnTest(unittest.TestCase):
    def test_own_things(self):
        lot = Lot("f", "g")
        rows = [
            (Fix("f"), (0,), (), ("f",)), (Fix("z"), (0,), (), ()), (Unfix("g"), (0,), (), ("g",)),
            (Cut(), (0,), (), ("f", "g")), (Carry("g", 3), (3,), (), ("g",)), (Drop("z", 3), (3,), (), ()),
            (Merge(2), (2,), (), ("f", "g")), (Merge(2, "f"), (2,), (), ("f", "g")), (End(1), (1,), (), ("f", "g")),
            (Offer(1), (1,), (), ("f", "g")), (Try(1, 2), (1,), (), ("f", "g")), (Probe(2, 1), (2,), (), ("f", "g")),
            (Meet(1, 2), (1,), (), ("f", "g")), (Live(5), (5,), (), ("f", "g")), (Rise(1, 3, 5), (1, 3, 5), (), ("f", "g")),
            (Rise(1, 3, upto=1), (1, 3), (), ("f", "g")), (Down(1), (1,), (), ("f", "g")), (Day(1), (1,), (), ("f", "g")),
            (Night(2, 4, upto=2), (2, 4), (), ("f", "g")), (Redo(7), (), (7,), ("f", "g")), (Shut(9), (), (9,), ("f", "g")),
            (Renew(2, 5, upto=2), (), (2, 5), ("f", "g")), (Renew(3), (), (3,), ("f", "g")),
        ]
        for deed, lines, days, fixes in rows:
            with self.subTest(deed=str(deed)):
                self.assertTrue(same(deed.own_lines(), lines))
                self.assertTrue(same(deed.own_days(), days))
                self.assertTrue(same(deed.own_fixes(lot), fixes))
                self.assertEqual(deed.own_fixes(Lot()), ())

    def test_cut_to(self):
        rows = [
            ("fix f", "f", (), (), "fix f"), ("fix f", "g", (), (), None), ("unfix f", "f g", (1,), (), "unfix f"),
            ("cut", "-", (), (), "cut"), ("carry f 3", "f", (1, 3), (), "carry f 2"), ("carry f 3", "g", (3,), (), None),
            ("drop f 3", "f", (1, 2), (), None), ("drop f 3", "f", (3,), (), "drop f 1"), ("end 2", "-", (2, 3), (), "end 1"),
            ("end 2", "-", (1, 3), (), None), ("offer 6", "-", (1, 2, 6), (), "offer 3"), ("live 1", "-", (), (), None),
            ("down 2", "-", (2,), (), "down 1"), ("day 2", "-", (2,), (), "day 1"), ("day 2", "-", (1,), (), None),
            ("try 1 3", "-", (1, 3), (), "try 1 2"), ("try 1 3", "-", (1, 2), (), None), ("try 1 3", "-", (3,), (), None),
            ("probe 5 2", "-", (2, 5), (), "probe 2 1"), ("probe 5 2", "-", (5,), (), None),
            ("meet 2 4", "-", (1, 2, 4), (), "meet 2 3"),
            ("merge 2", "-", (2,), (), "merge 1"), ("merge 2", "f", (1,), (), None), ("merge 2", "f g", (2, 3), (), "merge 1"),
            ("merge 1 to f", "f", (1,), (), "merge 1"), ("merge 1 to f", "f g", (1,), (), "merge 1 to f"),
            ("merge 1 to f", "e g", (1,), (), "merge 1 to e"), ("merge 1 to f", "e", (1,), (), "merge 1"),
            ("merge 1 to f", "g", (1,), (), None), ("merge 1 to f", "-", (1,), (), None), ("merge 1 to f", "f", (2,), (), None),
            ("rise 1 2 3", "-", (1, 3), (), "rise 1 2"), ("rise 1 2 3", "-", (4,), (), None), ("rise 1 2", "-", (), (), None),
            ("rise 1 2 3 to 2", "-", (1, 2, 3), (), "rise 1 2 3 to 2"), ("rise 1 2 3 to 2", "-", (1, 3), (), "rise 1 2 to 1"),
            ("rise 1 2 3 to 2", "-", (1, 2), (), "rise 1 2"), ("rise 1 2 3 to 2", "-", (1,), (), "rise 1"),
            ("rise 1 2 3 to 2", "-", (3,), (), None), ("rise 2 3 4 to 2", "-", (1, 3, 4), (), None),
            ("rise 2 4 6 to 4", "-", (2, 6), (), "rise 1 2 to 1"), ("night 1 2 to 1", "-", (2,), (), None),
            ("night 1 2 to 1", "-", (1, 2), (1,), "night 1 2 to 1"), ("night 3", "-", (3,), (), "night 1"),
            ("redo 4", "-", (), (2, 4), "redo 2"), ("redo 4", "-", (4,), (2, 5), None), ("shut 1", "f", (), (1,), "shut 1"),
            ("shut 1", "f", (1,), (), None), ("renew 2 5 9", "-", (), (5,), "renew 1"),
            ("renew 2 5 9 to 5", "-", (), (2, 9), "renew 1 2 to 1"), ("renew 2 5 9 to 2", "-", (2,), (5, 9), None),
            ("renew 2 5 9 to 5", "-", (), (2, 5), "renew 1 2"), ("renew 2 5 9 to 5", "-", (), (1, 2, 5, 9), "renew 2 3 4 to 3"),
            ("renew 2 5", "-", (2, 5), (), None),
        ]
        for text, lot, lines, days, expected in rows:
            with self.subTest(text=text, lot=lot, lines=lines, days=days):
                deed = Deed.read(text)
                found = deed.cut_to(Lot.read(lot), lines, days)
                self.assertEqual(found, None if expected is None else Deed.read(expected))
                self.assertEqual(str(deed), text)

    def test_cut_to_all(self):
        every = tuple(range(1, 201))
        for text in TEXTS:
            if text != "merge 6 to f":
                lot = Lot("f", "g", "abcdefgh")
                self.assertEqual(str(Deed.read(text).cut_to(lot, every[:6], every)), text)


if __name__ == "__main__":
    unittest.main()

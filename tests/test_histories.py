"""Histories."""

import unittest

from editionlines.deeds import Carry, Cut, Day, Deed, Fix, Live, Night, Offer, Shut
from editionlines.errors import (BadDeed, BadHistory, BadLot, BadPlace, BadText, NoDay, NoFix, NoLine, NoRelease, TooMany,
                                 Undone)
from editionlines.grounds import Ground
from editionlines.histories import History
from editionlines.lots import Lot
from editionlines.needs import Needs
from editionlines.numbers import Number, Release
from tools import EditionTest, any_values, random_history, randoms

WENT = "f g : fix f, cut, offer 1, live 1, fix g, cut, offer 2, live 2, night 1 2 to 1, shut 1, day 2, meet 1 2"


class MadeTest(EditionTest):
    def test_made(self):
        went = History(Lot("f"), [Fix("f"), Cut()], Needs({"f": ["g"]}))
        self.assertEqual([went.lot, went.needs, len(went), list(went)], [Lot("f"), Needs({"f": ["g"]}), 2, [Fix("f"), Cut()]])
        self.assertEqual(went, History(lot=Lot("f"), deeds=(Fix("f"), Cut()), needs=Needs({"f": ["g"]})))
        self.assertEqual(went.ground, Ground(Lot("f")).after(Fix("f")).after(Cut()))
        self.assertEqual([History(Lot()).needs, History(Lot()).ground, History(Lot()).releases], [Needs(), Ground(Lot()), ()])

    def test_errors_in_order(self):
        for value in any_values():
            if type(value) is not Lot:
                self.refuses(BadHistory("lot"), History, value, None, 5)
            if not isinstance(value, (list, tuple)):
                self.refuses(BadHistory("deeds"), History, Lot(), value, 5)
            if value is not None and type(value) is not Needs:
                self.refuses(BadHistory("needs"), History, Lot(), [None], value)
            if not isinstance(value, Deed):
                self.refuses(BadDeed(1), History, Lot(), [Cut(), value, None])
                self.refuses(BadDeed(2), History, Lot(), (Live(1), Live(1), value))
                self.refuses(BadDeed(1000), History, Lot(), [Live(1)] * 1000 + [value])
        self.refuses(TooMany("deeds", 1000), History, Lot(), [Live(1)] * 1001)
        self.refuses(NoLine(1), History, Lot(), [Live(1)] * 1000)
        self.refuses(Undone(1), History, Lot(), [Cut(), Live(1)])
        self.refuses(NoFix("f"), History, Lot(), [Cut(), Fix("f")])
        self.refuses(NoDay(1), History, Lot(), [Shut(1)])
        self.refuses(TooMany("lines", 6), History, Lot(), [Cut()] * 7)
        self.refuses(TooMany("releases", 60), History, Lot(), [Cut()] + [Offer(1)] * 61)

    def test_undone_has_a_cause(self):
        with self.assertRaises(Undone) as caught:
            History(Lot(), [Cut(), Live(1)])
        self.assertIsInstance(caught.exception.__cause__, Undone)
        self.assertIsNone(caught.exception.__cause__.at)

    def test_bounds(self):
        deeds = [Cut()] + [Offer(1), Live(1)] * 60 + [Day(1)] * 200
        deeds += [Deed.read("end 1"), Deed.read("down 1")]
        deeds += [Live(1), Deed.read("down 1")] * ((1000 - len(deeds)) // 2)
        deeds += [Live(1)] * (1000 - len(deeds))
        went = History(Lot(), deeds)
        self.assertEqual([len(went), went.ground.day_count, len(went.releases)], [1000, 200, 60])
        self.refuses(TooMany("deeds", 1000), lambda: went + Deed.read("down 1"))
        self.refuses(TooMany("deeds", 1000), lambda: went + [Fix("z")])
        self.refuses(BadDeed(1000), lambda: went + [None])
        self.assertEqual(went + [], went)

    def test_later_changes(self):
        deeds = [Cut()]
        went = History(Lot(), deeds)
        deeds.append(Cut())
        self.assertEqual(len(went), 1)
        more = [Cut()]
        longer = went + more
        more.append(Cut())
        self.assertEqual([len(longer), len(went), more], [2, 1, [Cut(), Cut()]])


class AskedTest(EditionTest):
    def test_longer(self):
        went = History.read(WENT)
        for k in range(len(went) + 1):
            self.assertEqual(went.ahead(k) + went[k:], went)
            self.assertEqual((went.ahead(k) + list(went[k:])).ground, went.ground)
        self.assertEqual((went + Cut()).needs, went.needs)
        self.assertEqual(str(went.ahead(0) + Cut()), "f g : cut")
        for value in any_values():
            if not isinstance(value, (Deed, list, tuple)):
                self.refuses(BadHistory("other"), lambda: went + value)
            if not isinstance(value, Deed):
                self.refuses(BadDeed(14), lambda: went + [Cut(), Shut(1), value])
        self.refuses(Undone(13), lambda: went + [Cut(), Shut(1)])
        self.refuses(Undone(12), lambda: went + Shut(1))
        self.refuses(NoLine(6), lambda: went + (Cut(), Live(6)))
        self.assertEqual(len(went), 12)

    def test_as_a_row(self):
        went = History.read(WENT)
        self.assertEqual([went[0], went[-1], went[11]], [Fix("f"), Deed.read("meet 1 2"), Deed.read("meet 1 2")])
        self.assertEqual([went[1:3], went[::-6], went[20:]], [(Cut(), Offer(1)), (went[11], went[5]), ()])
        self.assertRaises(IndexError, lambda: went[12])
        for value in any_values():
            self.assertIs(value in went, isinstance(value, (Fix, Cut)))
        self.assertIn(Night(1, 2, upto=1), went)
        self.assertNotIn(Night(1, 2), went)

    def test_ahead(self):
        went = History.read(WENT, Needs({"f": ["g"]}))
        for k in range(13):
            self.assertEqual(went.ahead(k), History(went.lot, went[:k], went.needs))
            self.assertEqual(went.ahead(k).releases, History(went.lot, went[:k]).releases)
        for value in any_values() + [13]:
            if type(value) is not int or not 0 <= value <= 12:
                self.refuses(BadHistory("ahead"), went.ahead, value)

    def test_grounds(self):
        went = History.read(WENT)
        found = list(went.grounds())
        self.assertEqual(len(found), 13)
        for k, ground in enumerate(found):
            self.assertEqual(ground, went.ahead(k).ground)
        self.assertEqual(list(History(Lot("f")).grounds()), [Ground(Lot("f"))])

    def test_made_days(self):
        went = History.read("- : cut, offer 1, live 1, cut, offer 2, live 2, night 1 2, day 2, redo 1, night 1 2 to 1")
        self.assertEqual([went.made(n) for n in range(10)], [()] * 6 + [(1, 2), (3,), (), (4,)])
        for value in any_values() + [10]:
            if type(value) is not int or not 0 <= value < 10:
                self.refuses(BadHistory("made"), went.made, value)
        self.refuses(BadHistory("made"), History(Lot()).made, 0)

    def test_releases(self):
        went = History.read("f : cut, offer 1, carry f 1, cut, offer 2, offer 1, cut")
        told = [Release(Number(1, 0), Lot()), Release(Number(2, 0), Lot()), Release(Number(1, 1), Lot("f"))]
        self.assertEqual(list(went.releases), told)
        self.assertIs(type(went.releases), tuple)
        for release in told:
            self.assertEqual(went.release(release.number), release)
        for value in any_values() + [Number(1, 2), Number(2, 1), Number(3, 0), Number(6, 0)]:
            if value != Number(1, 0):
                self.refuses(NoRelease(value), went.release, value)
                self.refuses(NoRelease(value), went.were_tried, value, None)
                self.refuses(NoRelease(value), went.were_tried, Number(1, 0), value)

    def test_were_tried(self):
        went = History.read("f : cut, cut, offer 1, offer 2, try 1 2, offer 1, live 2, probe 1 2, offer 2")
        one, two, three, four = Number(1, 0), Number(2, 0), Number(1, 1), Number(2, 1)
        for a, b, expected in ((one, two, True), (three, two, True), (one, four, False), (three, four, False),
                               (one, three, False), (one, one, False)):
            self.assertIs(went.were_tried(a, b), expected)
            self.assertIs(went.were_tried(b, a), expected)

    def test_equal(self):
        went = History.read(WENT)
        self.assertEqual(went, History.read(WENT))
        self.assertNotEqual(went, History.read(WENT, Needs({"f": ["g"]})))
        self.assertNotEqual(went, went.ahead(11))
        self.assertNotEqual(History(Lot("f")), History(Lot()))
        self.assertNotEqual(History.read("f : cut, cut"), History.read("f : cut, fix f"))
        for value in any_values():
            self.assertEqual(History(Lot()) == value, type(value) is History)


class TextsTest(EditionTest):
    def test_both_ways(self):
        self.holds_both_ways(History.read, [WENT, "- : -", "f : -", "a b : cut", "- : cut, cut"])
        self.assertEqual(History.read("f : cut", Needs({"f": ["g"]})), History(Lot("f"), [Cut()], Needs({"f": ["g"]})))
        self.assertEqual(History.read(text="f : cut", needs=None), History(Lot("f"), [Cut()]))
        self.refuses_no_texts(History.read)
        for rng in randoms("history texts", 30):
            went = random_history(rng)
            self.assertEqual(History.read(str(went)), went)

    def test_wrong_words(self):
        self.refuses_words(History.read, [
            ("", 0), (":", 0), (": cut", 0), (" : cut", 0), ("f", 1), ("f g", 2), ("g f", 1), ("f G : cut", 1), ("f cut", 1),
            ("f :", 2), ("f : ", 2), ("f:", 0), ("f: cut", 0), ("- f : cut", 1), ("f - : cut", 1), ("f : - cut", 3), ("f : - ", 3),
            ("f : -,", 2), ("f : -, cut", 2), ("f : cut,", 3), ("f : cut, ", 3), ("f : cut,cut", 2), ("f : cut, -", 3),
            ("f : cut cut", 3), ("f : fix f, fix", 5), ("f : fix, cut", 3), ("f : fix f,, cut", 3), ("f : , cut", 2),
            ("f : cut, , cut", 3), ("f : rise 1 2 to 2, cut", 6), ("f : cut, fixes f, fix", 3), ("f : cut ,", 3),
            ("f : : cut", 2), ("f : cut : cut", 3), ("a b c d e f g h i : cut", 8), ("f f : cuts", 1),
        ])
        self.refuses(Undone(1), History.read, "f : cut, live 1")
        self.refuses(NoFix("g"), History.read, "f : fix g")
        self.refuses(NoLine(1), History.read, "f : live 1")
        self.refuses(BadText(0, 3), History.read, "f : live 1x", 5)
        self.refuses(BadHistory("needs"), History.read, "f : live 1", 5)
        many = "f : " + ", ".join(["cut"] * 1001)
        self.refuses(TooMany("deeds", 1000), History.read, many)

    def test_spoilt(self):
        for text in ("f g : fix f, cut, carry g 1, offer 1", "- : cut, cut, offer 1, offer 2, rise 1 2 to 1", "f : -"):
            self.looks_at_spoilt(History.read, text, [":", ",", "cut,", "cut", "fix", "1,", "to", "-"])


class OnlyTest(EditionTest):
    def test_examples(self):
        went = History.read("f g : fix f, cut, offer 1, live 1, cut, merge 2 to f, merge 2, offer 2, live 2, night 1 2, "
                            "night 1 2 to 1, renew 1 2 to 1, merge 1 to f, meet 1 2, redo 3, shut 2, fix g, cut, end 3")
        for lot, lines, days, expected in (
            ("f g", (1, 2, 3), (1, 2, 3), str(went)),
            ("f g", (), (), "f g : fix f, fix g"),
            ("-", (3,), (), "- : cut, end 1"),
            ("g", (2,), (2,), "g : cut, merge 1, offer 1, live 1, night 1, shut 1, fix g"),
            ("g", (2,), (), "g : cut, merge 1, offer 1, live 1, fix g"),
            ("f", (1, 2), (3,), "f : fix f, cut, offer 1, live 1, cut, merge 2, merge 2, offer 2, live 2, night 1 2 to 1, "
                                "merge 1, meet 1 2, redo 1"),
            ("f g", (1, 2), (1,), "f g : fix f, cut, offer 1, live 1, cut, merge 2 to f, merge 2, offer 2, live 2, night 1, "
                                  "renew 1, merge 1 to f, meet 1 2, fix g"),
            ("f g", (1, 2), (2,), "f g : fix f, cut, offer 1, live 1, cut, merge 2 to f, merge 2, offer 2, live 2, night 2, "
                                  "merge 1 to f, meet 1 2, shut 1, fix g"),
        ):
            with self.subTest(lot=lot, lines=lines, days=days):
                found = went.only(Lot.read(lot), lines, list(days))
                self.assertEqual(str(found), expected)
                self.assertEqual(found.ground, went.ground.only(Lot.read(lot), lines, days))

    def test_needs(self):
        went = History.read("f g h : cut", Needs({"f": ["g", "z"], "g": ["h"]}))
        self.assertEqual(went.only(Lot("f", "g"), [1], []).needs, Needs({"f": ["g"]}))
        self.assertEqual(went.only(Lot("f", "h"), [1], []).needs, Needs())

    def test_nights(self):
        went = History.read("- : cut, cut, cut, offer 1, offer 2, offer 3, rise 1 2 3, night 1 2 3 to 2, night 1 2 3")
        for lines, days, expected in (
            ((1, 2, 3), (1, 2), ", night 1 2 3 to 2"), ((1, 2, 3), (1,), ", night 1 3 to 1"), ((1, 2, 3), (2,), ", night 2 3 to 2"),
            ((1, 2), (1, 2), ", night 1 2"), ((1, 3), (1,), ", night 1 2 to 1"), ((2, 3), (), ""), ((3,), (), ""),
            ((2, 3), (2,), ", night 1 2 to 1"), ((2, 3), (4, 5), ", night 1 2"), ((1, 2, 3), (3, 5), ", night 1 3"),
        ):
            found = str(went.only(Lot(), lines, days)).split("rise")[1].partition(",")
            self.assertEqual(found[1] + found[2], expected)

    def test_errors(self):
        went = History.read(WENT)
        for lot, lines, days, error in (
            (None, None, None, BadLot("lot")), (Lot("z"), None, None, BadLot("lot")), (Lot("f"), None, None, BadPlace("lines")),
            (Lot("f"), [], None, BadPlace("days")), (Lot(), [3], [9], NoLine(3)), (Lot(), [2, 1], [], NoLine(1)),
            (Lot(), [True], [], NoLine(True)), (Lot(), [1], [3], NoDay(3)), (Lot(), [2], [1], NoDay(1)),
            (Lot(), [1, 2], [2, 2], NoDay(2)),
        ):
            self.refuses(error, went.only, lot, lines, days)

    def test_the_fact(self):
        """The history cut down is a history, and its ground is that of the kept things."""
        for rng in randoms("only", 60):
            went = random_history(rng, many=40, needs=Needs({"f": ["g"], "g": ["h"]}))
            for _ in range(8):
                lot = Lot.of(rng.sample("fgh", rng.randint(0, 3)))
                lines = sorted(rng.sample(range(1, went.ground.line_count + 1), rng.randint(0, went.ground.line_count)))
                own = [day for day in range(1, went.ground.day_count + 1) if went.ground.line_of(day) in lines]
                days = sorted(rng.sample(own, rng.randint(0, len(own))))
                found = went.only(lot, lines, days)
                self.assertEqual(found.ground, went.ground.only(lot, tuple(lines), tuple(days)))
                self.assertEqual(found.lot, lot)
                self.assertEqual(found.needs, went.needs.only(lot))
                self.assertEqual(History.read(str(found), found.needs), found)
            every = went.only(went.lot, range_of(went.ground.line_count), range_of(went.ground.day_count))
            self.assertEqual(every.ground, went.ground)
            self.assertEqual(len(every), len(went))


def range_of(many):
    return list(range(1, many + 1))


class CarryTest(unittest.TestCase):
    def test_history_of_a_carry(self):
        went = History(Lot("f"), [Cut(), Carry("f", 1)])
        self.assertEqual(str(went), "f : cut, carry f 1")


if __name__ == "__main__":
    unittest.main()

"""Views and grounds."""

import unittest

from editionlines.deeds import Cut, Day, Deed, Fix, Live, Merge, Night, Offer, Redo, Renew, Rise, Shut
from editionlines.errors import BadDeed, BadLiteral, BadLot, BadPlace, NoDay, NoFix, NoLine, TooMany, Undone
from editionlines.grounds import DayState, Ground, LineState
from editionlines.histories import History
from editionlines.lots import Lot
from editionlines.views import View
from model import picture_of
from tools import EditionTest, any_values, random_deed, random_history, randoms

PLACE = "has lacks open ended shipped unshipped missed unmissed gives ungives omits unomits up unup runs unruns bares " \
        "unbares fresh unfresh".split()
TWO = "tried untried probed unprobed backed unbacked met unmet".split()
DAY = "keeps unkeeps shut unshut alike unalike".split()
PER_FIX = "has lacks shipped unshipped missed unmissed gives ungives omits unomits runs unruns bares unbares keeps " \
          "unkeeps alike unalike".split()


def ground_of(text):
    """The Ground behind the deeds of the text of a history."""
    return History.read(text).ground


# Line 1: 1.0 with f is live, 1.1 without it. Line 2: 2.0 with f and g is live; ended. Line 3: no release.
BUSY = ground_of("f g : fix f, cut, offer 1, live 1, drop f 1, offer 1, cut, carry g 2, offer 2, live 2, end 2, probe 1 2, "
                 "day 1, day 2, shut 2, cut")


class ViewTest(EditionTest):
    def test_counts(self):
        self.assertIsInstance(BUSY, View)
        self.assertEqual([BUSY.fixes, BUSY.line_count, BUSY.day_count], [("f", "g"), 3, 2])
        self.assertEqual([BUSY.line_of(1), BUSY.line_of(2)], [1, 2])
        start = Ground(Lot("b", "a"))
        self.assertEqual([start.fixes, start.line_count, start.day_count], [("a", "b"), 0, 0])
        self.assertEqual(Ground(Lot()).fixes, ())
        for value in any_values():
            if type(value) is not int or value not in (1, 2):
                self.refuses(NoDay(value), BUSY.line_of, value)
        self.refuses(NoDay(1), start.line_of, 1)

    def test_place_words(self):
        true = {
            (0, "f"): "has open", (0, "g"): "open",
            (1, "f"): "open shipped missed omits up runs", (1, "g"): "open missed omits up bares",
            (2, "f"): "has shipped gives up runs fresh", (2, "g"): "has shipped gives up runs fresh",
            (3, "f"): "has open", (3, "g"): "open",
        }
        for (place, fix), words in true.items():
            for word in PLACE:
                opposite = {"lacks": "has", "ended": "open"}.get(word, word.removeprefix("un"))
                expected = (word in words.split()) if opposite == word else (opposite not in words.split())
                self.assertIs(BUSY.place_tells(word, place, fix), expected, (word, place, fix))
                if word not in PER_FIX:
                    self.assertIs(BUSY.place_tells(word, place), expected)
                self.assertIs(BUSY.place_tells(word=word, place=place, fix=fix), expected)

    def test_two_words(self):
        for word in TWO:
            plain = word.removeprefix("un")
            for line, other in ((1, 2), (2, 1), (1, 3), (3, 2)):
                # The last one of 1 and the live one of 2, which is its last one, too.
                is_true = (line, other, plain) in ((1, 2, "probed"), (2, 1, "backed"), (1, 2, "tried"), (2, 1, "tried"))
                self.assertIs(BUSY.two_tell(word, line, other), is_true == (word == plain), (word, line, other))

    def test_day_words(self):
        true = {(1, "f"): "keeps alike", (1, "g"): "alike", (2, "f"): "keeps alike shut", (2, "g"): "keeps alike shut"}
        for (day, fix), words in true.items():
            for word in DAY:
                plain = word.removeprefix("un")
                self.assertIs(BUSY.day_tells(word, day, fix), (plain in words.split()) == (word == plain))
                if plain == "shut":
                    self.assertIs(BUSY.day_tells(word, day), (plain in words.split()) == (word == plain))
        down = BUSY.after(Deed.read("down 1"))
        self.assertEqual([down.day_tells("alike", 1, fix) for fix in "fg"], [False, True])
        other = BUSY.after(Live(1))
        self.assertEqual([other.day_tells("unalike", 1, fix) for fix in "fg"], [True, False])

    def test_errors(self):
        for value in any_values():
            if type(value) is not int or value not in (0, 1, 2):
                self.refuses(NoLine(value), BUSY.place_tells, "no", value, "no")
            if type(value) is not int or value not in (1, 2):
                self.refuses(NoLine(value), BUSY.two_tell, "no", value, value)
                self.refuses(NoLine(value), BUSY.two_tell, "no", value, 3)
                self.refuses(NoLine(value), BUSY.two_tell, "no", 3, value)
                self.refuses(NoDay(value), BUSY.day_tells, "no", value, "no")
            if value is not None and not (isinstance(value, str) and value in ("f", "g")):
                self.refuses(NoFix(value), BUSY.place_tells, "no", 1, value)
                self.refuses(NoFix(value), BUSY.day_tells, "no", 1, value)
                self.refuses(NoFix(value), BUSY.place_tells, "open", 0, value)
            self.refuses(BadLiteral("word"), BUSY.place_tells, value, 1, "f")
            self.refuses(BadLiteral("word"), BUSY.place_tells, value, 0)
            self.refuses(BadLiteral("word"), BUSY.two_tell, value, 1, 2)
            self.refuses(BadLiteral("word"), BUSY.day_tells, value, 1)
        for line in range(4):
            self.refuses(NoLine(line), BUSY.two_tell, "tried", line, line)
        self.refuses(NoLine(4), BUSY.two_tell, "tried", 4, 4)
        for word in TWO:
            self.refuses(NoLine(0), BUSY.two_tell, word, 0, 1)
            self.refuses(NoLine(0), BUSY.two_tell, word, 1, 0)
            self.refuses(NoLine(0), BUSY.two_tell, word, 0, 0)
        self.refuses(NoLine(4), BUSY.place_tells, "up", 4)
        self.refuses(NoDay(3), BUSY.day_tells, "shut", 3)
        for words, call, told in ((TWO + DAY, BUSY.place_tells, (1, "f")), (PLACE + DAY, BUSY.two_tell, (1, 2)),
                                  (PLACE + TWO, BUSY.day_tells, (1, "f"))):
            for word in words:
                self.refuses(BadLiteral("word"), call, word, *told)
        for word in PER_FIX:
            call = BUSY.day_tells if word in DAY else BUSY.place_tells
            self.refuses(NoFix(None), call, word, 1)
            self.refuses(NoFix(None), call, word, 1, None)


class AfterTest(EditionTest):
    def test_start(self):
        start = Ground(Lot("f"))
        self.assertEqual([start.lot, start.main, start.lines, start.days, start.tried], [Lot("f"), Lot(), (), (), ()])
        self.assertEqual(start, Ground(lot=Lot("f")))
        for value in any_values():
            if type(value) is not Lot:
                self.refuses(BadLot("lot"), Ground, value)

    def test_table(self):
        rows = [
            ("f : -", "fix f", "f : fix f"), ("f : fix f", "fix f", None), ("f : fix f", "unfix f", "f : -"),
            ("f : -", "unfix f", None), ("f : cut", "carry f 1", "f : fix f, cut, unfix f"), ("f : fix f, cut", "carry f 1", None),
            ("f : cut, end 1", "carry f 1", None), ("f : fix f, cut", "drop f 1", "f : cut, fix f"), ("f : cut", "drop f 1", None),
            ("f : fix f, cut, end 1", "drop f 1", None), ("f : cut, end 1", "end 1", None), ("f : cut, end 1", "offer 1", None),
            ("f : cut, end 1", "merge 1", None), ("f : cut, cut, offer 1", "try 1 2", None),
            ("f : cut, cut, offer 1, offer 2", "probe 1 2", None), ("f : cut, cut, offer 1, offer 2, live 1", "probe 1 2", None),
            ("f : cut, cut, offer 1, offer 2, live 1", "meet 1 2", None), ("f : cut, cut, offer 1, live 1", "probe 2 1", None),
            ("f : cut", "live 1", None), ("f : cut, offer 1, live 1", "live 1", None), ("f : cut", "down 1", None),
            ("f : cut, offer 1", "down 1", None), ("f : cut, offer 1, live 1, down 1", "live 1", "f : cut, offer 1, live 1"),
            ("f : cut, offer 1", "day 1", None), ("f : cut, offer 1, live 1, down 1", "day 1", None),
            ("f : cut, cut, offer 1, offer 2, live 1", "rise 1 2", None), ("f : cut, cut, offer 1, live 1", "rise 2", None),
            ("f : cut, cut, offer 1, offer 2, live 2", "rise 1 2 to 1", None),
            ("f : cut, cut, offer 1, offer 2", "rise 1 2 to 1", "f : cut, cut, offer 1, offer 2, live 1"),
            ("f : cut, cut, offer 1, offer 2", "rise 1 2", "f : cut, cut, offer 1, offer 2, live 1, live 2"),
            ("f : cut, cut, offer 1, live 1, offer 2", "night 1 2 to 1", None),
            ("f : cut, cut, offer 1, offer 2, rise 1 2", "night 1 2 to 1", "f : cut, cut, offer 1, offer 2, rise 1 2, day 1"),
            ("f : cut, offer 1, live 1, day 1", "redo 1", "f : cut, offer 1, live 1, day 1"),
            ("f : cut, offer 1, live 1, day 1, down 1", "redo 1", None), ("f : cut, offer 1, live 1, day 1, shut 1", "redo 1", None),
            ("f : cut, offer 1, live 1, day 1, shut 1", "shut 1", None),
            ("f : cut, offer 1, live 1, day 1, down 1", "shut 1", "f : cut, offer 1, live 1, day 1, shut 1, down 1"),
            ("f : cut, offer 1, live 1, day 1, day 1, shut 2", "renew 1 2 to 1", None),
            ("f : cut, offer 1, live 1, day 1, day 1, down 1", "renew 1 2 to 1", None),
        ]
        for ahead, deed, behind in rows:
            with self.subTest(ahead=ahead, deed=deed):
                ground, done = ground_of(ahead), Deed.read(deed)
                self.assertIs(ground.can(done), behind is not None)
                if behind is None:
                    self.refuses(Undone(None), ground.after, done)
                    self.refuses(Undone(None), ground, done)
                else:
                    self.assertEqual(ground.after(done), ground_of(behind))
                    self.assertEqual(ground(done), ground_of(behind))

    def test_ended_lines_go_on(self):
        ground = ground_of("f : cut, cut, offer 1, offer 2, live 1, end 1")
        for text in ("live 2", "try 1 2", "probe 2 1", "down 1", "day 1", "night 1"):
            self.assertTrue(ground.can(Deed.read(text)), text)
        gone = ground_of("f : cut, offer 1, end 1").after(Live(1)).after(Day(1)).after(Redo(1))
        self.assertEqual(gone.lines, (LineState(Lot(), (Lot(),), 0, False),))

    def test_merge(self):
        ground = ground_of("e f g : fix e, fix f, fix g, cut, unfix e, drop e 1, drop f 1, drop g 1")
        for upto, expected in ((None, "f g"), ("e", "-"), ("f", "f"), ("g", "f g")):
            self.assertEqual(str(ground.after(Merge(1, upto)).lines[0].lot), expected)
        kept = ground_of("e f : fix f, cut, unfix f, fix e")
        self.assertEqual(str(kept.after(Merge(1)).lines[0].lot), "e f")

    def test_days(self):
        ground = ground_of("f : cut, cut, offer 1, offer 2, rise 1 2, night 1 2, carry f 1, offer 1, live 1, day 1")
        self.assertEqual(ground.days, (DayState(1, Lot()), DayState(2, Lot()), DayState(1, Lot("f"))))
        again = ground.after(Renew(1, 2, 3, upto=1))
        self.assertEqual(again.days, (DayState(1, Lot("f")), DayState(2, Lot()), DayState(1, Lot("f"))))
        shut = again.after(Shut(1))
        self.assertEqual(shut.days[0], DayState(1, Lot("f"), True))
        self.refuses(Undone(None), shut.after, Renew(1, 2))
        self.assertEqual(shut.after(Renew(2, 3)), shut)

    def test_tried_is_ascending_and_told_once(self):
        ground = ground_of("- : cut, cut, cut, offer 1, offer 2, offer 3, try 2 3, try 1 3")
        self.assertEqual(ground.tried, (((1, 0), (3, 0)), ((2, 0), (3, 0))))
        ground = ground.after(Live(1)).after(Deed.read("probe 3 1")).after(Deed.read("probe 2 1")).after(Offer(1))
        self.assertEqual(ground.tried, (((1, 0), (2, 0)), ((1, 0), (3, 0)), ((2, 0), (3, 0))))
        ground = ground.after(Deed.read("try 1 2"))
        self.assertEqual(ground.tried[2], ((1, 1), (2, 0)))
        self.assertEqual(len(ground.tried), 4)
        self.assertEqual(ground.after(Deed.read("try 1 2")), ground)

    def test_elder_grounds_stay(self):
        for rng in randoms("elder", 10):
            history = random_history(rng)
            told = [picture_of(ground) for ground in history.grounds()]
            ground = history.ground
            for _ in range(30):
                ground.can(random_deed(rng, "fgh", 3, 4))
            self.assertEqual([picture_of(ground) for ground in history.grounds()], told)


class ErrorsTest(EditionTest):
    def test_no_deed(self):
        for value in any_values():
            if not isinstance(value, Deed):
                self.refuses(BadDeed(None), BUSY.after, value)
                self.refuses(BadDeed(None), BUSY, value)
                self.refuses(BadDeed(None), BUSY.can, value)

    def test_order(self):
        for text, error in (
            ("fix z", NoFix("z")), ("unfix z", NoFix("z")), ("carry z 5", NoFix("z")),
            ("carry f 5", NoLine(5)), ("drop z 6", NoFix("z")), ("merge 5 to z", NoFix("z")), ("merge 5", NoLine(5)),
            ("merge 2 to z", NoFix("z")), ("merge 2 to f", Undone(None)), ("end 4", NoLine(4)), ("try 1 4", NoLine(4)),
            ("try 4 5", NoLine(4)), ("probe 5 4", NoLine(5)), ("probe 3 4", NoLine(4)), ("rise 1 4 5", NoLine(4)),
            ("rise 3 6 to 3", NoLine(6)), ("night 3 4", NoLine(4)), ("redo 3", NoDay(3)), ("shut 200", NoDay(200)),
            ("renew 2 3 4", NoDay(3)), ("renew 2", Undone(None)), ("try 1 3", Undone(None)),
        ):
            self.refuses(error, BUSY.after, Deed.read(text))
            self.assertIs(BUSY.can(Deed.read(text)), False)

    def test_too_many_lines(self):
        ground = Ground(Lot())
        for _ in range(6):
            ground = ground.after(Cut())
        self.refuses(TooMany("lines", 6), ground.after, Cut())
        self.assertIs(ground.can(Cut()), False)
        self.assertEqual(ground.line_count, 6)

    def test_too_many_releases(self):
        ground = ground_of("- : cut, cut")
        for _ in range(60):
            ground = ground.after(Offer(2))
        self.refuses(TooMany("releases", 60), ground.after, Offer(2))
        self.assertTrue(ground.can(Offer(1)))
        self.refuses(Undone(None), ground.after(Deed.read("end 2")).after, Offer(2))
        self.assertEqual(ground.after(Live(2)).lines[1].live, 59)

    def test_too_many_days(self):
        ground = ground_of("- : cut, offer 1, live 1, cut, offer 2, live 2")
        for _ in range(99):
            ground = ground.after(Night(1, 2))
        ground = ground.after(Day(1))
        self.refuses(TooMany("days", 200), ground.after, Night(1, 2))
        last = ground.after(Night(1, 2, upto=1))
        self.assertEqual([last.day_count, last.line_of(200)], [200, 1])
        for deed in (Day(1), Night(2), Night(1, 2, upto=1)):
            self.refuses(TooMany("days", 200), last.after, deed)
        self.refuses(NoLine(3), last.after, Day(3))
        self.assertTrue(last.can(Renew(1, 200)))
        self.refuses(Undone(None), last.after(Deed.read("down 2")).after, Night(1, 2))


class OnlyTest(EditionTest):
    def test_errors(self):
        for value in any_values():
            if type(value) is not Lot or not value <= Lot("f"):
                self.refuses(BadLot("lot"), BUSY.only, value, None, None)
            if not isinstance(value, (list, tuple)):
                self.refuses(BadPlace("lines"), BUSY.only, Lot("f"), value, None)
                self.refuses(BadPlace("days"), BUSY.only, Lot("f"), [9], value)
            if type(value) is not int or value not in (1, 2):
                self.refuses(NoLine(value), BUSY.only, Lot(), [value, 0], [9])
                self.refuses(NoLine(value), BUSY.only, Lot(), (1, value), [value])
                self.refuses(NoDay(value), BUSY.only, Lot(), [], [value])
                self.refuses(NoDay(value), BUSY.only, Lot(), [2], [1, value])
        self.refuses(BadLot("lot"), BUSY.only, Lot("f", "z"), 1, 1)
        self.refuses(NoLine(0), BUSY.only, Lot(), [0], [])
        self.refuses(NoDay(0), BUSY.only, Lot(), [1], [0])
        self.refuses(NoLine(1), BUSY.only, Lot(), [1, 1], [])
        self.refuses(NoLine(1), BUSY.only, Lot(), [2, 1], [])
        self.refuses(NoLine(4), BUSY.only, Lot(), [1, 4], [])
        self.refuses(NoDay(1), BUSY.only, Lot(), [1, 2], [2, 1])
        self.refuses(NoDay(3), BUSY.only, Lot(), [1, 2], [1, 3])
        self.refuses(NoDay(1), BUSY.only, Lot(), [2, 3], [1, 2])
        self.refuses(NoDay(2), BUSY.only, Lot(), [1], [1, 2])

    def test_kept(self):
        self.assertEqual(BUSY.only(Lot("f", "g"), (1, 2, 3), (1, 2)), BUSY)
        some = BUSY.only(Lot("g"), [1, 3], [1])
        self.assertEqual(some, ground_of("g : cut, offer 1, live 1, offer 1, cut, day 1"))
        self.assertEqual(some.fixes, ("g",))
        pair = BUSY.only(Lot("f"), (1, 2), (2,))
        self.assertEqual(pair.tried, (((1, 1), (2, 0)),))
        self.assertEqual(pair.days, (DayState(2, Lot("f"), True),))
        later = ground_of("- : cut, cut, cut, offer 2, offer 3, try 2 3").only(Lot(), (2, 3), ())
        self.assertEqual(later.tried, (((1, 0), (2, 0)),))
        self.assertEqual(BUSY.only(Lot(), [], []), Ground(Lot()))

    def test_equal(self):
        for value in any_values():
            self.assertEqual(Ground(Lot("f")) == value, type(value) is Ground)
        texts = ("f : -", "f g : -", "f : fix f", "f : cut", "f : cut, offer 1", "f : cut, offer 1, live 1",
                 "f : cut, offer 1, live 1, day 1", "f : cut, end 1", "- : cut, cut, offer 1, offer 2",
                 "- : cut, cut, offer 1, offer 2, try 1 2")
        for one in texts:
            for other in texts:
                self.assertEqual(ground_of(one) == ground_of(other), one == other)
        self.assertEqual(ground_of("f : fix f, unfix f"), Ground(Lot("f")))

    def test_rise_and_fix(self):
        ground = Ground(Lot("f")).after(Fix("f")).after(Cut()).after(Offer(1))
        self.assertEqual(ground.after(Rise(1)), ground.after(Live(1)))


if __name__ == "__main__":
    unittest.main()

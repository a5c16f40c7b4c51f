"""Webs: ties, their texts, from which days days are made, and what is made again."""

import unittest

from editionlines.deeds import Deed
from editionlines.errors import BadHistory, BadText, BadWeb, NoDay, TooMany
from editionlines.histories import History
from editionlines.papers import Denial, Paper
from editionlines.webs import Again, Web, again
from tools import DAY_KINDS, EditionTest, any_values, busy_history, randoms, same

BOTH = History.read("f : cut, offer 1, live 1, cut, offer 2, live 2, night 1 2, night 1 2, fix f, carry f 1, offer 1, live 1")
ALL_TIES = [(line, source, back) for line in range(1, 7) for source in range(1, 7) for back in range(10)]


def random_ties(rng, lines, many=4):
    return [(rng.randint(1, lines), rng.randint(1, lines), rng.choice([0, 0, 0, 1, 1, 2, 3, 9])) for _ in range(rng.randint(0, many))]


def homes(history):
    return [day.line for day in history.ground.days]


def made_from(days, ties, day):
    """The numbers of the days from which a day is made; days are the lines of all days."""
    found = set()
    for line, source, back in ties:
        ahead = [number for number in range(1, day) if days[number - 1] == source]
        if days[day - 1] == line and len(ahead) > back:
            found.add(ahead[len(ahead) - 1 - back])
    return tuple(sorted(found))


def samples(name, many, lines=3):
    for rng in randoms(name, many):
        history = busy_history(rng, lines=lines, many=60, fixes=("f",), days=12, kinds=DAY_KINDS)
        ties = random_ties(rng, lines, 9)
        yield rng, history, ties


class WebTest(EditionTest):
    def test_ties(self):
        web = Web((2, 1, 0), (1, 1, 3), (2, 1, 0))
        self.assertTrue(same(web.ties, ((1, 1, 3), (2, 1, 0))))
        self.assertEqual([len(web), list(web), (2, 1, 0) in web, (1, 2, 0) in web], [2, [(1, 1, 3), (2, 1, 0)], True, False])
        self.assertTrue(same((len(Web()), list(Web()), Web().ties), (0, [], ())))
        self.assertEqual(Web(*ALL_TIES[:12]).ties, tuple(ALL_TIES[:12]))
        self.assertEqual(Web((1, 1, 9), (1, 1, 0), (1, 1, 5)).ties, ((1, 1, 0), (1, 1, 5), (1, 1, 9)))
        for value in any_values():
            self.assertIs(value in web, False)
        for value in ([2, 1, 0], (2, True, 0), (2, 1), (2, 1, 0, 0), (2, 1, False)):
            self.assertIs(value in web, False)
            self.assertIs(value in Web((2, 1, 0), (1, 1, 0)), False)

    def test_equal_webs(self):
        self.assertEqual(Web((2, 1, 0), (1, 1, 0)), Web((1, 1, 0), (2, 1, 0), (1, 1, 0)))
        self.assertNotEqual(Web((2, 1, 0)), Web((1, 2, 0)))
        for value in any_values():
            self.assertEqual(Web((2, 1, 0)) == value, False)
            self.assertEqual(Web() == value, isinstance(value, Web) and not value.ties)

    def test_errors_of_ties(self):
        for value in any_values():
            self.refuses(BadWeb(0), Web, value)
            self.refuses(BadWeb(2), Web, (1, 1, 0), (1, 2, 0), value, None)
            if not (type(value) is int and 1 <= value <= 6):
                self.refuses(BadWeb(1), Web, (1, 1, 0), (value, 1, 0))
                self.refuses(BadWeb(1), Web, (1, 1, 0), (1, value, 0))
            if not (type(value) is int and 0 <= value <= 9):
                self.refuses(BadWeb(1), Web, (1, 1, 0), (1, 1, value))
        for tie in ((0, 1, 0), (7, 1, 0), (1, 0, 0), (1, 7, 0), (1, 1, -1), (1, 1, 10), [1, 1, 0], (1, 1), (1, 1, 0, 0), ()):
            self.refuses(BadWeb(0), Web, tie)
        self.refuses(TooMany("ties", 12), Web, *ALL_TIES[:13])
        self.refuses(BadWeb(13), Web, *ALL_TIES[:13], None)
        self.assertEqual(len(Web(*ALL_TIES[:12], *ALL_TIES[:12])), 12)

    def test_or(self):
        one, other = Web((2, 1, 0), (1, 1, 0)), Web((1, 1, 0), (3, 1, 0))
        self.assertEqual(one | other, Web((2, 1, 0), (1, 1, 0), (3, 1, 0)))
        self.assertEqual([one | Web() == one, Web() | Web() == Web()], [True, True])
        self.assertEqual(len(one), 2)
        self.assertEqual(len(Web(*ALL_TIES[:12]) | Web(*ALL_TIES[3:9])), 12)
        self.refuses(TooMany("ties", 12), lambda: Web(*ALL_TIES[:12]) | Web(ALL_TIES[13]))
        for value in any_values():
            if not isinstance(value, Web):
                self.refuses(BadWeb("other"), lambda: one | value)

    def test_texts(self):
        self.holds_both_ways(Web.read, [
            "-", "1 from 1 back 0", "6 from 6 back 9", "1 from 2 back 0 , 1 from 2 back 1", "1 from 2 back 9 , 1 from 3 back 0",
            "1 from 6 back 9 , 2 from 1 back 0 , 2 from 1 back 3", str(Web(*ALL_TIES[:12])), str(Web(*ALL_TIES[-12:]))])
        self.assertEqual(str(Web((2, 1, 0), (1, 3, 4))), "1 from 3 back 4 , 2 from 1 back 0")
        for rng in randoms("web texts", 40):
            web = Web(*rng.sample(ALL_TIES, rng.randint(0, 12)))
            self.assertEqual(Web.read(str(web)), web)
            self.assertEqual(str(web), " , ".join(f"{a} from {b} back {c}" for a, b, c in web.ties) or "-")

    def test_words_that_cannot_stand(self):
        self.refuses_no_texts(Web.read)
        self.refuses_words(Web.read, [
            ("", 0), ("- -", 1), ("- ,", 1), ("1", 1), ("1 from", 2), ("1 from 2", 3), ("1 from 2 back", 4), ("0 from 2 back 0", 0),
            ("7 from 2 back 0", 0), ("01 from 2 back 0", 0), ("1 from 0 back 0", 2), ("1 from 7 back 0", 2), ("1 from 2 back 10", 4),
            ("1 from 2 back -1", 4), ("1 from 1 back -1", 4), ("1 from 2 back 00", 4), ("1 to 2 back 0", 1), ("1 from 2 in 0", 3), ("1 from 2 back 0,", 4),
            ("1 from 2 back 0 ,", 6), ("1 from 2 back 0 , ", 6), ("1 from 2 back 0 1", 5), ("1 from 2 back 0 , -", 6),
            ("1 from 2 back 0 , 1 from 2 back 0", 10), ("1 from 2 back 3 , 1 from 2 back 1", 10), ("1 from 2 back 0 , 1 from 1 back 5", 8),
            ("2 from 2 back 0 , 1 from 6 back 9", 6), ("1 from 2 back 9 , 1 from 2 back 9", 10), ("6 from 6 back 9 , 6 from 6 back 9", 10),
            ("6 from 6 back 9 , 7 from 6 back 9", 6), ("1  from 2 back 0", 1), (" 1 from 2 back 0", 0), ("1 from 2 back 0 ", 5)])
        full = str(Web(*ALL_TIES[:12]))
        self.refuses_words(Web.read, [(full + " , 6 from 6 back 9", 12 * 6 - 1), (full + " ,", 12 * 6 - 1), (full + " x", 12 * 6 - 1)])

    def test_spoilt_texts(self):
        for text in ("-", "1 from 2 back 0", "1 from 1 back 3 , 1 from 2 back 0 , 2 from 1 back 0", "5 from 6 back 9 , 6 from 1 back 0"):
            self.looks_at_spoilt(Web.read, text, ["1", "2", "6", "7", "9", "10", ",", "from", "back", "01"])

    def test_cut_to(self):
        web = Web((1, 1, 0), (3, 1, 2), (1, 3, 1), (2, 3, 0), (6, 6, 6))
        self.assertEqual(web.cut_to((1, 3)), Web((1, 1, 0), (2, 1, 2), (1, 2, 1)))
        self.assertEqual(web.cut_to((3,)), Web())
        self.assertEqual(web.cut_to(()), Web())
        self.assertEqual(web.cut_to((6,)), Web((1, 1, 6)))
        self.assertEqual(web.cut_to(lines=(1, 2, 3, 4, 5, 6)), web)
        for value in any_values() + [(1, 1), (2, 1), (0,), (7,), [1], (True,), (1, None), ((1,),)]:
            if not (isinstance(value, tuple) and all(type(line) is int and 1 <= line <= 6 for line in value)
                    and list(value) == sorted(set(value))):
                self.refuses(BadWeb("lines"), web.cut_to, value)

    def test_sources_and_users(self):
        self.assertTrue(same(Web((2, 1, 0), (1, 1, 0)).sources(BOTH, 2), (1,)))
        self.assertEqual(Web((2, 1, 1)).sources(BOTH, 4), (1,))
        self.assertEqual(Web((2, 1, 2)).sources(BOTH, 4), ())
        # A day of the same night counts only if its number is less.
        self.assertEqual([Web((1, 2, 0)).sources(BOTH, day) for day in (1, 2, 3, 4)], [(), (), (2,), ()])
        many = 0
        for rng, history, ties in samples("webs", 40):
            web, days = Web(*ties), homes(history)
            for day in range(1, len(days) + 1):
                told = made_from(days, ties, day)
                many += len(told)
                self.assertTrue(same(web.sources(history, day), told))
                users = tuple(other for other in range(1, len(days) + 1) if day in made_from(days, ties, other))
                self.assertTrue(same(web.users(history, day), users))
        self.assertGreater(many, 200)

    def test_sources_in_six_lines(self):
        rows = ["cut"] * 6 + [f"offer {line}, live {line}" for line in range(1, 7)] + ["night 1 2 3 4 5 6"] * 4
        history = History.read("f : " + ", ".join(rows))
        for rng in randoms("webs of six lines", 6):
            web, days = Web(*random_ties(rng, 6, 9), (6, 5, 0), (5, 6, 0)), homes(history)
            for day in range(1, len(days) + 1):
                self.assertEqual(web.sources(history, day), made_from(days, web.ties, day))
            self.assertIn(6, web.sources(history, 11))

    def test_sources_in_a_history_cut_down(self):
        for rng, history, ties in samples("webs cut down", 25):
            web = Web(*ties)
            for lines in ((1,), (2, 3), (1, 3), (1, 2, 3), ()):
                days = [day for day in range(1, history.ground.day_count + 1) if history.ground.line_of(day) in lines]
                short, less = history.only(history.lot, lines, days), web.cut_to(lines)
                for at, day in enumerate(days):
                    told = tuple(days.index(source) + 1 for source in web.sources(history, day) if source in days)
                    self.assertEqual(less.sources(short, at + 1), told)

    def test_errors_of_sources(self):
        web = Web((2, 1, 0))
        for call in (web.sources, web.users):
            for value in any_values():
                if not isinstance(value, History):
                    self.refuses(BadHistory("history"), call, value, None)
                if not (type(value) is int and 1 <= value <= 4):
                    self.refuses(NoDay(value), call, history=BOTH, day=value)
            self.refuses(NoDay(5), call, BOTH, 5)


class AgainTest(EditionTest):
    def test_in_a_history_cut_down(self):
        """What is made again in a history cut down is made again in it; all of it, if no tie leads through other lines."""
        many = 0
        for rng, history, ties in samples("again cut down", 60):
            for lines in ((1, 2), (1, 3), (2, 3), (1,)):
                days = [day for day in range(1, history.ground.day_count + 1) if history.ground.line_of(day) in lines]
                if days:
                    short, some = history.only(history.lot, lines, days), rng.choice(days)
                    web = Web(*ties)
                    inner = Web(*[tie for tie in ties if tie[0] in lines and tie[1] in lines])
                    less = again(short, web.cut_to(lines), days.index(some) + 1)
                    told = Again(tuple(days[at - 1] for at in less.days), tuple(days[at - 1] for at in less.left))
                    self.assertEqual(told, again(history, inner, some))
                    self.assertTrue(set(told.days) <= set(again(history, web, some).days))
                    many += len(told.days) > 1
        self.assertGreater(many, 10)

    def test_papers(self):
        self.assertIsInstance(Again(days=(), left=()), Paper)
        self.assertNotIsInstance(Again((), ()), Denial)
        self.assertEqual((Again(1, 2).days, Again(1, 2).left), (1, 2))

    def test_by_hand(self):
        web = Web((2, 1, 0), (1, 1, 0))
        self.assertTrue(same(again(BOTH, web, 1).held(), ((1, 2, 3, 4), ())))
        self.assertEqual(again(BOTH, web, 4, 2, 4), Again((2, 4), ()))
        self.assertTrue(same(again(BOTH, web).held(), ((), ())))
        self.assertEqual(again(BOTH, Web(), 3, 1), Again((1, 3), ()))
        # What cannot be made again passes nothing on: day 4 is made from day 3.
        shut = BOTH + Deed.read("shut 3")
        self.assertEqual(again(shut, web, 1), Again((1, 2), (3,)))
        self.assertEqual(again(shut, web, 3), Again((), (3,)))
        self.assertEqual(again(shut, web, 3, 4), Again((4,), (3,)))
        # Line 2 is not up.
        self.assertEqual(again(BOTH + Deed.read("down 2"), web, 1), Again((1, 3), (2, 4)))

    def test_beside_a_plain_reckoning(self):
        left = 0
        for rng, history, ties in samples("again", 100):
            web, days = Web(*ties), homes(history)
            ground = history.ground
            free = [at + 1 for at, day in enumerate(ground.days) if not day.is_shut and ground.lines[day.line - 1].live is not None]
            some = [rng.randint(1, len(days)) for _ in range(rng.randint(0, 3))] if days else []
            reached = set(some)
            while True:
                more = {day for day in range(1, len(days) + 1) if set(made_from(days, ties, day)) & reached & set(free)}
                if more <= reached:
                    break
                reached |= more
            told = (tuple(day for day in sorted(reached) if day in free), tuple(day for day in sorted(reached) if day not in free))
            self.assertTrue(same(again(history, web, *some).held(), told))
            left += len(told[0]) > len(some) and len(told[1]) > 0
        self.assertGreater(left, 2)

    def test_errors(self):
        web = Web((2, 1, 0))
        for value in any_values():
            if not isinstance(value, History):
                self.refuses(BadHistory("history"), again, value, None, None)
            if not isinstance(value, Web):
                self.refuses(BadWeb("web"), again, BOTH, value, None)
            if not (type(value) is int and 1 <= value <= 4):
                self.refuses(NoDay(value), again, BOTH, web, value)
                self.refuses(NoDay(value), again, BOTH, web, 4, 1, value, 9)


if __name__ == "__main__":
    unittest.main()

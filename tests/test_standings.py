"""Standings: what is told of few things of a history."""

import itertools
import unittest

from editionlines.clauses import Clause
from editionlines.deeds import Cut, Day, Deed, Drop, Fix, Live, Merge, Night, Offer, Redo, Rise, Shut, Try
from editionlines.errors import BadDeed, BadLiteral, BadStanding, EditionError, NoDay, NoFix, NoLine, TooMany, Undone
from editionlines.grounds import Ground
from editionlines.histories import History
from editionlines.kinds import FEATURES, Kind
from editionlines.lots import Lot
from editionlines.needs import Needs
from editionlines.standings import Standing
from editionlines.stands import DayStand, LineStand
from editionlines.views import View
from test_kinds import KINDS
from tools import ALL_FEATURES, EditionTest, any_values, random_clause, random_deed, random_history, random_kind, randoms

PLACE = "has lacks open ended shipped unshipped missed unmissed gives ungives omits unomits up unup runs unruns bares " \
        "unbares fresh unfresh".split()
TWO = "tried untried probed unprobed backed unbacked met unmet".split()
DAY = "keeps unkeeps shut unshut alike unalike".split()
LOOKS = {"open": "open ended", "past": "shipped missed unshipped unmissed", "last": "gives omits ungives unomits",
         "live": "up runs bares fresh alike unup unruns unbares unfresh unalike", "tries": " ".join(TWO)}


def looks_at(word):
    return next((feature for feature, words in LOOKS.items() if word in words.split()), None)


def after(standing, text):
    """The standing behind the deeds of a text."""
    for row in text.split(", "):
        standing = standing.after(Deed.read(row))
    return standing


def start(kind, features=FEATURES, is_turned=False):
    return Standing.starts(kind, features)[1 if is_turned else 0]


def features_for(kind):
    return [words for words in ALL_FEATURES if "live" in words or not kind.days]


def random_walk(rng, kind, features, many=12):
    """A standing to which some steps lead."""
    standing = rng.choice(Standing.starts(kind, features))
    for _ in range(rng.randint(0, many)):
        steps = list(standing.steps())
        if not steps:
            break
        deed, later = rng.choice(steps)
        if deed.KIND not in ("end", "shut") or rng.random() < 0.3:
            standing = later
    return standing


def few_of(rng, ground):
    """Some fixes, lines and days of a ground, as many as a standing can have."""
    fixes = tuple(rng.sample(list(ground.fixes), rng.randint(0, min(2, len(ground.fixes)))))
    lines = tuple(sorted(rng.sample(range(1, ground.line_count + 1), rng.randint(0, min(2, ground.line_count)))))
    days = [day for day in range(1, ground.day_count + 1) if ground.line_of(day) in lines]
    return fixes, lines, tuple(sorted(rng.sample(days, rng.randint(0, min(2, len(days))))))


class StartsTest(EditionTest):
    def test_made(self):
        for fixes, lines, days in KINDS:
            kind = Kind(fixes, lines, days)
            for features in features_for(kind):
                found = Standing.starts(kind, features)
                self.assertIsInstance(found, tuple)
                self.assertEqual([standing.is_turned for standing in found], [False, True][:2 if fixes == 2 else 1])
                for standing in found:
                    self.assertIsInstance(standing, View)
                    self.assertEqual((standing.kind, standing.features), (kind, features))
                    self.assertEqual(standing.main, (False,) * fixes)
                    self.assertEqual((standing.lines, standing.two, standing.days), ((), (False,) * 4, ()))
                    self.assertEqual(standing.fixes, ("f", "g")[:fixes])
                    self.assertEqual((standing.line_count, standing.day_count), (0, 0))
        self.assertEqual(Standing.starts(kind=Kind(0, 0))[0].features, FEATURES)

    def test_errors(self):
        for value in any_values():
            if type(value) is not Kind:
                self.refuses(BadStanding("kind"), Standing.starts, value, "no")
            if value != ():
                self.refuses(BadStanding("features"), Standing.starts, Kind(1, 1), value)
            self.refuses(BadStanding("features"), Standing.starts, Kind(1, 1, (1,)), value)
        for many in range(4):
            for words in itertools.permutations(FEATURES, many):
                if words not in ALL_FEATURES:
                    self.refuses(BadStanding("features"), Standing.starts, Kind(1, 1), words)
                if "live" not in words or words not in ALL_FEATURES:
                    self.refuses(BadStanding("features"), Standing.starts, Kind(0, 1, (1,)), words)
        for words in (("live", "last"), ("last", "last"), ["last"], ("last", "up"), ("open", "tries"), ("last", "tries")):
            self.refuses(BadStanding("features"), Standing.starts, Kind(1, 1), words)


class StandsTest(EditionTest):
    def test_papers(self):
        line, day = LineStand((True,), False, ("won",), (True,), None, 7), DayStand((), "x")
        self.assertEqual([line.has, line.is_open, line.past, line.last, line.live, line.fresh],
                         [(True,), False, ("won",), (True,), None, 7])
        self.assertEqual([day.keeps, day.is_shut], [(), "x"])
        self.assertEqual(line, LineStand(has=(True,), is_open=False, past=("won",), last=(True,), live=None, fresh=7))
        self.assertEqual(day, DayStand(keeps=(), is_shut="x"))
        self.assertNotEqual(day, DayStand((), "y"))
        self.assertNotEqual(line, day)
        self.assertTrue(line and day)


class AfterTest(EditionTest):
    def test_by_hand(self):
        standing = after(start(Kind(1, 2, (1, 2))), "cut, fix f, offer 1, merge 1, offer 1, rise 1, cut, offer 2, try 1 2, day 1")
        self.assertEqual(standing.main, (True,))
        self.assertEqual(standing.lines, (LineStand((True,), True, ("won",), (True,), (True,), True),
                                          LineStand((True,), True, ("all",), (True,), None, False)))
        # 1.1 is the last and the live release of line 1.
        self.assertEqual(standing.two, (True, False, True, False))
        self.assertEqual(standing.days, (DayStand((True,), False),))
        later = after(standing, "drop f 1, offer 1, live 2, end 2, night 1 2, shut 1")
        self.assertEqual(later.lines, (LineStand((False,), True, ("lost",), (False,), (True,), False),
                                       LineStand((True,), False, ("all",), (True,), (True,), True)))
        self.assertEqual(later.two, (False, False, True, True))
        self.assertEqual(later.days, (DayStand((True,), True), DayStand((True,), False)))
        self.assertEqual(after(later, "live 1, redo 2, down 1").lines[0], LineStand((False,), True, ("lost",), (False,), None, False))

    def test_what_is_not_told(self):
        # The same deeds, at standings that tell less; a line that is not told to end goes on.
        deeds = "cut, fix f, offer 1, end 1"
        for features in ALL_FEATURES:
            line = after(start(Kind(1, 1), features), deeds).lines[0]
            self.assertEqual(line, LineStand((False,), "open" not in features, ("no",) if "past" in features else ("none",),
                                             (False,) if "last" in features else None, None, False))
        self.assertEqual(after(start(Kind(1, 1), ("last",)), "cut, offer 1, live 1, rise 1").lines[0].live, None)
        self.refuses(Undone(None), after, start(Kind(1, 1), ("last",)), "cut, offer 1, live 1, down 1")
        self.refuses(Undone(None), after, start(Kind(1, 1), ("open",)), "cut, offer 1, live 1")
        two = after(start(Kind(0, 2), ("last", "live")), "cut, cut, offer 1, offer 2, try 1 2")
        self.assertEqual(two.two, (False,) * 4)
        self.refuses(Undone(None), after, two, "meet 1 2")

    def test_beside_grounds(self):
        done = {}
        for rng in randoms("stand", 60):
            history = random_history(rng, many=30)
            for ground in list(history.grounds())[::3]:
                fixes, lines, days = few_of(rng, ground)
                small = ground.only(Lot(*fixes), lines, days)
                full = Standing.of(ground, fixes, lines, days)
                names = dict(zip(full.names, fixes))
                for deed in full.askable():
                    if deed.KIND == "merge" and deed.upto:
                        continue
                    real = Deed.read(" ".join(names.get(word, word) for word in str(deed).split(" ")))
                    self.assertTrue(small.can(real))
                    if deed.KIND == "cut":
                        self.refuses(TooMany("lines", len(lines)), full.after, deed)
                        continue
                    every = tuple(range(1, len(lines) + 1)), tuple(range(1, len(days) + 1))
                    later = Standing.of(small.after(real), fixes, *every)
                    self.assertEqual(full.after(deed), later, (str(full), str(deed)))
                    self.assertEqual(full(deed), later)
                    done[deed.KIND] = True
        self.assertEqual(len(done), 18)

    def test_fewer_features_go_the_same_way(self):
        many = 0
        for rng in randoms("blur", 60):
            kind = random_kind(rng)
            standing = random_walk(rng, kind, FEATURES)
            for features in features_for(kind):
                less = standing.narrowed(kind, features)
                for deed in less.askable():
                    told = {"try": "last", "probe": "live", "meet": "live", "live": "live", "rise": "live"}
                    if deed.KIND in ("carry", "drop", "merge", "offer", "end") and "open" not in features:
                        continue
                    if told.get(deed.KIND, "last") in features and not (deed.KIND == "cut" and len(standing.lines) == kind.lines):
                        self.assertEqual(standing.after(deed).narrowed(kind, features), less.after(deed), str(deed))
                        many += 1
        self.assertGreater(many, 1000)

    def test_days_that_are_not_kept(self):
        standing = after(start(Kind(1, 2, (2, 1))), "cut, cut, offer 1, offer 2, rise 1 2")
        self.assertEqual(standing(Day(1)), standing)
        self.assertEqual(standing(Day(2)).days, (DayStand((False,), False),))
        self.assertEqual(standing(Night(1, 2)).days, (DayStand((False,), False),))
        self.assertEqual(standing(Night(1, 2, upto=1)), standing)
        once = standing(Day(2))
        self.assertEqual(once(Night(1, 2)), once(Day(1)))
        self.assertEqual(len(once(Night(1, 2)).days), 2)
        self.assertEqual(once(Day(2)), once)
        both = once(Day(1))
        self.assertEqual(both(Night(1, 2)), both)
        same = after(start(Kind(1, 2, (1, 2))), "cut, cut, offer 1, offer 2, rise 1 2")
        self.assertEqual(len(same(Night(1, 2)).days), 2)
        self.assertEqual(len(same(Night(1, 2, upto=1)).days), 1)

    def test_errors(self):
        standing = after(start(Kind(1, 2, (1,))), "cut, fix f")
        for value in any_values():
            if not isinstance(value, Deed):
                self.refuses(BadDeed(None), standing.after, value)
                self.refuses(BadDeed(None), standing, value)
        self.refuses(NoFix("g"), standing.after, Fix("g"))
        self.refuses(NoFix("g"), standing.after, Merge(2, "g"))
        self.refuses(NoFix("h"), standing.after, Drop("h", 4))
        self.refuses(NoLine(2), standing.after, Offer(2))
        self.refuses(NoLine(2), standing.after, Rise(1, 2, 3))
        self.refuses(NoLine(2), standing.after, Try(1, 2))
        self.refuses(NoDay(1), standing.after, Redo(1))
        self.refuses(Undone(None), standing.after, Fix("f"))
        self.refuses(Undone(None), standing.after, Live(1))
        self.refuses(TooMany("lines", 2), standing(Cut()).after, Cut())
        for lines in range(3):
            full = after(start(Kind(0, lines)), ", ".join(["cut"] * lines)) if lines else start(Kind(0, 0))
            self.refuses(TooMany("lines", lines), full.after, Cut())
        self.refuses(Undone(None), after, standing, "offer 1, live 1, day 1, shut 1, shut 1")

    def test_beside_after_of_random_deeds(self):
        seen = {}
        for rng in randoms("trouble", 40):
            kind = random_kind(rng)
            standing = random_walk(rng, kind, FEATURES)
            ground = Ground(Lot(*standing.fixes))
            for _ in range(40):
                deed = random_deed(rng, "fg", 3, 3)
                try:
                    standing.after(deed)
                    seen[None] = True
                except EditionError as error:
                    if isinstance(error, NoFix):
                        self.assertFalse(error.fix in ground.lot)
                    if isinstance(error, NoLine):
                        self.assertGreater(error.line, standing.line_count)
                    if isinstance(error, NoDay):
                        self.assertGreater(error.day, standing.day_count)
                    if isinstance(error, TooMany):
                        self.assertEqual((deed, error.most), (Cut(), kind.lines))
                    seen[type(error).__name__] = True
                    self.assertFalse([same for same in standing.askable(deed.KIND) if same == deed and deed != Cut()])
        self.assertEqual(len(seen), 6)


class AskableTest(EditionTest):
    def test_order(self):
        standing = after(start(Kind(2, 2, (1, 2))), "cut, fix f, cut, offer 1, offer 2, rise 1 2, night 1 2, offer 1")
        self.assertEqual([str(deed) for deed in standing.askable()], [
            "fix g", "unfix f", "carry f 1", "carry g 1", "carry g 2", "drop f 2", "merge 1", "merge 1 to f", "merge 2",
            "merge 2 to f", "cut", "end 1", "end 2", "offer 1", "offer 2", "try 1 2", "probe 1 2", "probe 2 1", "meet 1 2",
            "live 1", "rise 1", "down 1", "down 2", "day 1", "day 2", "night 1", "night 1 2", "night 1 2 to 1", "night 2",
            "redo 1", "redo 2", "renew 1", "renew 1 2", "renew 1 2 to 1", "renew 2", "shut 1", "shut 2"])
        self.assertEqual([str(deed) for deed in standing.askable("merge")], ["merge 1", "merge 1 to f", "merge 2", "merge 2 to f"])
        self.assertEqual([str(deed) for deed in standing.askable(kind="rise")], ["rise 1"])
        self.assertEqual(list(standing.askable("unknown")), [])
        for kind in Deed.KINDS:
            self.assertEqual(list(standing.askable(kind)), [deed for deed in standing.askable() if deed.KIND == kind])

    def test_the_first_fix_comes_first(self):
        turned = after(start(Kind(2, 2), is_turned=True), "cut, cut, fix f")
        self.assertEqual([str(deed) for deed in turned.askable("fix")], ["fix g"])
        self.assertEqual([str(deed) for deed in turned.askable("carry")], ["carry g 1", "carry g 2", "carry f 1", "carry f 2"])
        self.assertEqual([str(deed) for deed in start(Kind(2, 0), is_turned=True).askable("fix")], ["fix g", "fix f"])
        self.assertEqual([str(deed) for deed in start(Kind(2, 0)).askable("fix")], ["fix f", "fix g"])
        # The stop of a merge is the lesser name, whichever fix needs the other one.
        self.assertEqual([str(deed) for deed in turned.askable("merge")][:2], ["merge 1", "merge 1 to f"])
        self.assertEqual(turned(Deed.read("merge 1 to f")).lines[0].has, (False, True))
        self.assertEqual(start(Kind(2, 1), is_turned=True)(Fix("g")).main, (True, False))

    def test_steps(self):
        standing = after(start(Kind(1, 2, (2, 1))), "cut, cut, offer 1, offer 2, rise 1 2")
        found = list(standing.steps())
        self.assertEqual([str(deed) for deed, _ in found], [
            "fix f", "carry f 1", "carry f 2", "end 1", "end 2", "offer 1", "offer 2", "try 1 2", "probe 1 2",
            "probe 2 1", "meet 1 2", "down 1", "down 2", "day 2", "night 2"])
        for deed, later in found:
            self.assertEqual(later, standing(deed))
        once = standing(Day(2))
        told = [str(deed) for deed, _ in once.steps()]
        self.assertEqual(told[12:], ["down 2", "day 1", "night 1", "night 1 2 to 1", "shut 1"])
        self.assertEqual([str(deed) for deed, _ in start(Kind(0, 0)).steps()], [])

    def test_beside_after(self):
        for rng in randoms("steps", 40):
            kind = random_kind(rng)
            standing = random_walk(rng, kind, rng.choice(features_for(kind)))
            expected = []
            for deed in standing.askable():
                if deed == Cut() and standing.line_count == kind.lines:
                    self.refuses(TooMany("lines", kind.lines), standing.after, deed)
                    continue
                later = standing.after(deed)
                made = len(deed.lines) if deed.KIND == "night" else 1
                made = deed.lines.index(deed.upto) + 1 if deed.KIND == "night" and deed.upto else made
                all_kept = deed.KIND not in ("day", "night") or later.day_count - standing.day_count == made
                if later != standing and all_kept:
                    expected.append((deed, later))
            self.assertEqual(list(standing.steps()), expected)


class ViewTest(EditionTest):
    def test_words_as_of_grounds(self):
        for rng in randoms("view", 60):
            history = random_history(rng, many=35)
            fixes, lines, days = few_of(rng, history.ground)
            ground = history.ground.only(Lot(*fixes), lines, days)
            for features in rng.sample(ALL_FEATURES, 4):
                if days and "live" not in features:
                    continue
                standing = Standing.of(history.ground, fixes, lines, days, features)
                real = dict(zip(standing.names, fixes))
                for word in PLACE + TWO + DAY:
                    for call, told, asked in self.questions(standing, ground, word, real):
                        if looks_at(word) in (None, *features):
                            self.assertIs(getattr(standing, call)(*told), getattr(ground, call)(*asked), (call, told))
                        else:
                            self.refuses(BadLiteral("features"), getattr(standing, call), *told)

    def questions(self, standing, ground, word, real):
        """The triples of a method, what it is asked of a standing, and of a ground."""
        for name, fix in list(real.items()):
            if word in PLACE:
                for place in range(ground.line_count + 1):
                    yield "place_tells", (word, place, name), (word, place, fix)
            if word in DAY:
                for day in range(1, ground.day_count + 1):
                    yield "day_tells", (word, day, name), (word, day, fix)
        if word in ("open", "ended", "up", "unup", "fresh", "unfresh"):
            for place in range(ground.line_count + 1):
                yield "place_tells", (word, place), (word, place)
        if word in TWO and ground.line_count == 2:
            yield "two_tell", (word, 1, 2), (word, 1, 2)
            yield "two_tell", (word, 2, 1), (word, 2, 1)

    def test_two_lines_and_two_days(self):
        text = "kind 1 2 1 2 ; tells open past last live tries ; straight ; main has ; " \
               "line has open all last has live has stale ; line lacks open all last has live has stale ; two"
        cells = {("tried", 1, 2): 0, ("tried", 2, 1): 0, ("probed", 1, 2): 1, ("probed", 2, 1): 2, ("backed", 1, 2): 2,
                 ("backed", 2, 1): 1, ("met", 1, 2): 3, ("met", 2, 1): 3}
        for two in itertools.product((False, True), repeat=4):
            words = " ".join("yes" if told else "no" for told in two)
            standing = Standing.read(f"{text} {words} ; day has shut ; day lacks open")
            self.assertEqual(standing.two, two)
            for (word, line, other), at in cells.items():
                self.assertIs(standing.two_tell(word, line, other), two[at])
                self.assertIs(standing.two_tell("un" + word, line, other), not two[at])
            self.assertEqual([standing.day_tells("keeps", day, "f") for day in (1, 2)], [True, False])
            self.assertEqual([standing.day_tells("shut", day) for day in (1, 2)], [True, False])
            self.assertEqual([standing.day_tells("alike", day, "f") for day in (1, 2)], [True, False])
        of_ground = History.read("f : cut, cut, offer 1, offer 2, live 1, live 2, meet 1 2, offer 1, probe 1 2, offer 2").ground
        self.assertEqual(Standing.of(of_ground, (), (1, 2), ()).two, (False, True, False, True))
        other = History.read("f : cut, cut, offer 1, offer 2, live 1, offer 1, try 1 2, live 2, offer 2, probe 2 1").ground
        self.assertEqual(Standing.of(other, (), (1, 2), ()).two, (False, True, True, False))

    def test_tries_move_on(self):
        standing = after(start(Kind(0, 2)), "cut, cut, offer 1, offer 2")
        rows = [
            ("try 1 2", "yes no no no"), ("live 1", "yes no yes no"), ("live 2", "yes yes yes yes"), ("offer 1", "no no yes yes"),
            ("probe 1 2", "yes yes yes yes"), ("offer 2", "no yes no yes"), ("down 2", "no no no no"), ("probe 2 1", "no no yes no"),
            ("live 1", "no no no no"), ("probe 2 1", "yes no yes no"), ("rise 2", "yes yes yes yes"), ("offer 1", "no no yes yes"),
            ("offer 2", "no no no yes"), ("try 1 2", "yes no no yes"), ("rise 1 2 to 1", "yes no yes no"),
            ("rise 2", "yes yes yes yes"), ("down 1", "yes yes no no"), ("down 2", "yes no no no"), ("rise 1 2", "yes yes yes yes"),
        ]
        for text, words in rows:
            standing = after(standing, text)
            self.assertEqual(standing.two, tuple(word == "yes" for word in words.split()), text)

    def test_errors(self):
        standing = after(start(Kind(1, 2, (1,)), ("last", "live")), "cut, cut, offer 1, live 1, day 1")
        for value in any_values():
            if not (type(value) is int and 0 <= value <= 2):
                self.refuses(NoLine(value), standing.place_tells, "no", value, "no")
            if not (type(value) is int and 1 <= value <= 2):
                self.refuses(NoLine(value), standing.two_tell, "no", value, value)
                self.refuses(NoLine(value), standing.two_tell, "no", 1, value)
            if not (type(value) is int and value == 1):
                self.refuses(NoDay(value), standing.day_tells, "no", value, "no")
                self.refuses(NoDay(value), standing.line_of, value)
            if value is not None and value != "f":
                self.refuses(NoFix(value), standing.place_tells, "no", 1, value)
                self.refuses(NoFix(value), standing.day_tells, "no", 1, value)
            self.refuses(BadLiteral("word"), standing.place_tells, value, 1, "f")
            self.refuses(BadLiteral("word"), standing.two_tell, value, 1, 2)
            self.refuses(BadLiteral("word"), standing.day_tells, value, 1, "f")
        self.refuses(NoLine(1), standing.two_tell, "tried", 1, 1)
        self.refuses(NoLine(0), standing.two_tell, "tried", 0, 1)
        self.refuses(NoFix(None), standing.place_tells, "shipped", 1)
        self.refuses(BadLiteral("features"), standing.place_tells, "shipped", 1, "f")
        self.refuses(BadLiteral("features"), standing.place_tells, "unmissed", 0, "f")
        self.refuses(BadLiteral("features"), standing.place_tells, "ended", 2)
        self.refuses(BadLiteral("features"), standing.two_tell, "unmet", 1, 2)
        self.assertEqual([standing.line_of(1), start(Kind(0, 2, (2, 1)))(Cut())(Cut())(Offer(2))(Live(2))(Day(2)).line_of(1)],
                         [1, 2])

    def test_clauses_as_at_grounds(self):
        held = {True: 0, False: 0}
        for rng in randoms("asked", 80):
            history = random_history(rng, many=30)
            fixes, lines, days = few_of(rng, history.ground)
            if fixes != tuple(sorted(fixes)):
                fixes = fixes[::-1]
            small = history.ground.only(Lot(*fixes), lines, days)
            standing = Standing.of(history.ground, fixes, lines, days)
            real = dict(zip(standing.names, fixes))
            wanted = Needs({fixes[0]: [fixes[1]]}) if len(fixes) == 2 else None
            told = Needs({"f": ["g"]}) if len(fixes) == 2 else None
            for deed in standing.askable():
                clause = random_clause(rng, deed.KIND)
                same = Deed.read(" ".join(real.get(word, word) for word in str(deed).split(" ")))
                found = clause(standing, deed, told)
                self.assertIs(found, clause(small, same, wanted), (str(clause), str(deed), str(standing)))
                held[found] += 1
        self.assertGreater(min(held.values()), 50)

    def test_clause_raises_what_is_not_told(self):
        standing = after(start(Kind(1, 1), ("last",)), "cut")
        self.refuses(BadLiteral("features"), Clause.read("end once: own up"), standing, Deed.read("end 1"))
        self.assertTrue(Clause.read("end once: own ungives")(standing, Deed.read("end 1")))


class KeyTest(EditionTest):
    def test_keys(self):
        found, texts = {}, {}
        for rng in randoms("keys", 150):
            kind = random_kind(rng)
            standing = random_walk(rng, kind, rng.choice(features_for(kind)))
            self.look_at_parts(standing.key, 0)
            self.assertIsInstance(standing.key, tuple)
            self.assertEqual(found.setdefault(standing.key, str(standing)), str(standing))
            self.assertEqual(texts.setdefault(str(standing), standing.key), standing.key)
            again = Standing.read(str(standing))
            self.assertEqual((again.key, again), (standing.key, standing))
        self.assertGreater(len(found), 60)
        self.assertEqual(len({str(key) for key in found}), len(found))

    def look_at_parts(self, value, depth):
        if isinstance(value, tuple):
            self.assertLess(depth, 8)
            for part in value:
                self.look_at_parts(part, depth + 1)
        else:
            self.assertIn(type(value), (int, bool, type(None), str))

    def test_equal(self):
        one = start(Kind(1, 1))
        self.assertEqual(one, start(Kind(1, 1)))
        self.assertNotEqual(one, start(Kind(1, 2)))
        self.assertNotEqual(one, start(Kind(1, 1), ("open",)))
        self.assertNotEqual(one, one(Fix("f")))
        self.assertNotEqual(*Standing.starts(Kind(2, 0)))
        for value in any_values():
            if type(value) is not Standing:
                self.assertNotEqual(one, value)
        self.assertEqual(one(Fix("f"))(Deed.read("unfix f")), one)


class NarrowedTest(EditionTest):
    def test_as_of_fewer_things(self):
        for rng in randoms("narrowed", 80):
            history = random_history(rng, many=35)
            fixes, lines, days = few_of(rng, history.ground)
            full = Standing.of(history.ground, fixes, lines, days)
            for less in KINDS:
                kind = Kind(*less)
                features = rng.choice(ALL_FEATURES)
                if not kind <= full.kind:
                    self.refuses(BadStanding("kind"), full.narrowed, kind, features)
                elif kind.days and "live" not in features:
                    self.refuses(BadStanding("features"), full.narrowed, kind, features)
                else:
                    kept = days[:len(kind.days)]
                    expected = Standing.of(history.ground, fixes[:kind.fixes], lines[:kind.lines], kept, features)
                    self.assertEqual(full.narrowed(kind=kind, features=features), expected)

    def test_errors(self):
        standing = after(start(Kind(2, 1, (1,)), ("last", "live"), True), "cut, fix g")
        for value in any_values():
            if type(value) is not Kind:
                self.refuses(BadStanding("kind"), standing.narrowed, value, "no")
            self.refuses(BadStanding("features"), standing.narrowed, Kind(2, 1, (1,)), value)
        for features in (("open",), ("open", "last", "live"), ("past", "last"), ("live",), ["last"], ("live", "last")):
            self.refuses(BadStanding("features"), standing.narrowed, Kind(1, 1), features)
        for kind in (Kind(2, 2), Kind(2, 1, (1, 1)), Kind(2, 2, (2,))):
            self.refuses(BadStanding("kind"), standing.narrowed, kind, ())
        less = standing.narrowed(Kind(1, 1), ("last",))
        self.assertEqual((less.is_turned, less.main, less.fixes), (False, (True,), ("f",)))
        self.assertEqual(standing.narrowed(standing.kind, standing.features), standing)


class OfTest(EditionTest):
    def test_by_hand(self):
        ground = History.read("a b c : fix b, cut, offer 1, live 1, fix a, cut, carry a 1, offer 1, offer 2, live 2, meet 1 2, "
                              "cut, night 1 2, shut 2").ground
        found = Standing.of(ground, ("b", "a"), (1, 2), (1, 2))
        self.assertEqual((found.is_turned, found.main, found.kind), (True, (True, True), Kind(2, 2, (1, 2))))
        self.assertEqual(found.lines, (
            LineStand((True, True), True, ("all", "won"), (True, True), (True, False), False),
            LineStand((True, True), True, ("all", "all"), (True, True), (True, True), True)))
        self.assertEqual(found.two, (False, False, True, True))
        self.assertEqual(found.days, (DayStand((True, False), False), DayStand((True, True), True)))
        less = Standing.of(ground=ground, fixes=("c",), lines=(2, 3), days=(), features=("past", "last"))
        self.assertEqual(less.lines, (LineStand((False,), True, ("no",), (False,), None, False),
                                      LineStand((False,), True, ("none",), None, None, False)))
        self.assertEqual(Standing.of(ground, (), (), ()), start(Kind(0, 0)))
        self.assertEqual(Standing.of(ground, (), (2,), (2,)).kind, Kind(0, 1, (1,)))

    def test_beside_only(self):
        for rng in randoms("of", 80):
            history = random_history(rng, many=35)
            for ground in list(history.grounds())[::5]:
                fixes, lines, days = few_of(rng, ground)
                features = rng.choice(features_for(Kind(0, 1, (1,) if days else ())))
                small = ground.only(Lot(*fixes), lines, days)
                every = tuple(range(1, len(lines) + 1)), tuple(range(1, len(days) + 1))
                found = Standing.of(ground, fixes, lines, days, features)
                self.assertEqual(found, Standing.of(small, fixes, *every, features))
                cut = history.only(Lot(*fixes), *few_of(rng, history.ground)[1:2], ())
                self.assertEqual(Standing.of(ground, list(fixes), list(lines), list(days), features), found)
                self.assertEqual(cut.lot, Lot(*fixes))

    def test_of_a_history_cut_down(self):
        for rng in randoms("cut down", 60):
            history = random_history(rng, many=35)
            fixes, lines, days = few_of(rng, history.ground)
            small = history.only(Lot(*fixes), lines, days)
            every = tuple(range(1, len(lines) + 1)), tuple(range(1, len(days) + 1))
            self.assertEqual(Standing.of(small.ground, fixes, *every), Standing.of(history.ground, fixes, lines, days))
            # And it is where the deeds that are left lead.
            standing = start(Kind(len(fixes), len(lines), [small.ground.line_of(day) for day in every[1]]),
                             FEATURES, fixes != tuple(sorted(fixes)))
            names = dict(zip(fixes, standing.names))
            if fixes == tuple(sorted(fixes)) or len(fixes) < 2:
                for deed in small:
                    standing = standing.after(Deed.read(" ".join(names.get(word, word) for word in str(deed).split(" "))))
                self.assertEqual(standing, Standing.of(history.ground, fixes, lines, days))

    def test_errors(self):
        ground = History.read("f g h : cut, cut, cut, offer 1, offer 2, offer 3, rise 1 2 3, night 1 2 3").ground
        for value in any_values():
            if type(value) is not Ground:
                self.refuses(BadStanding("ground"), Standing.of, value, None, None, None, None)
            if not (isinstance(value, str) and value in ("f", "g", "h")):
                self.refuses(NoFix(value), Standing.of, ground, (value,), None, None, None)
                self.refuses(NoFix(value), Standing.of, ground, ("g", value), None, None, None)
            if not (type(value) is int and 1 <= value <= 3):
                self.refuses(NoLine(value), Standing.of, ground, ("f",), (value,), (9,), None)
                self.refuses(NoDay(value), Standing.of, ground, (), (1, 2), (value,), None)
            if not (type(value) is int and 2 <= value <= 3):
                self.refuses(NoLine(value), Standing.of, ground, (), (1, value), (9,), None)
            if value not in ALL_FEATURES:
                self.refuses(BadStanding("features"), Standing.of, ground, (), (1, 2), (1, 2), value)
        self.refuses(NoFix("h"), Standing.of, ground, ("f", "g", "h"), (9,), (9,), "no")
        self.refuses(NoLine(3), Standing.of, ground, ("f",), (1, 2, 3), (9,), "no")
        more = ground(Night(1, 2, 3))
        self.refuses(NoDay(4), Standing.of, more, ("f",), (1, 2), (1, 2, 4), "no")
        self.refuses(NoFix("fg"), Standing.of, ground, "fg", (9,), (9,), "no")
        self.refuses(NoLine({}), Standing.of, ground, (), {}, (9,), "no")
        self.refuses(NoDay(None), Standing.of, ground, (), (), None, "no")
        self.refuses(NoFix("f"), Standing.of, ground, ("f", "f"), (), ())
        self.refuses(NoFix("z"), Standing.of, ground, ("f", "z"), (9,), (9,), "no")
        self.refuses(NoLine(1), Standing.of, ground, ("f",), (2, 1), (9,), "no")
        self.refuses(NoLine(4), Standing.of, ground, ("f",), (4,), (9,), "no")
        self.refuses(NoDay(1), Standing.of, ground, ("f",), (2, 3), (1,), "no")
        self.refuses(NoDay(1), Standing.of, ground, ("f",), (1, 2), (2, 1), "no")
        self.refuses(NoDay(2), Standing.of, ground, ("f",), (1, 2), (2, 2), "no")
        self.refuses(NoDay(4), Standing.of, ground, ("f",), (1, 2), (2, 4), "no")
        self.refuses(BadStanding("features"), Standing.of, ground, ("f",), (1, 2), (1,), ("last",))
        self.refuses(BadStanding("features"), Standing.of, ground, ("f",), (1, 2), (), ("tries",))


BUSY = "kind 2 2 1 2 ; tells open past last live tries ; turned ; main has lacks ; " \
       "line has lacks ended all lost last has lacks live has has stale ; line lacks lacks open none none last none live none " \
       "stale ; two no no no no ; day has has shut"


class TextTest(EditionTest):
    def test_by_hand(self):
        rows = [
            (start(Kind(0, 0), ()), "kind 0 0 ; tells - ; straight ; main -"),
            (start(Kind(2, 0), ("open",), True), "kind 2 0 ; tells open ; turned ; main lacks lacks"),
            (after(start(Kind(0, 1, (1,)), ("last", "live")), "cut, offer 1, live 1, day 1, shut 1"),
             "kind 0 1 1 ; tells last live ; straight ; main - ; line - open - last some live some fresh ; day - shut"),
            (after(start(Kind(0, 1), ("last",)), "cut"),
             "kind 0 1 ; tells last ; straight ; main - ; line - open - last none live none stale"),
            (after(start(Kind(1, 2)), "cut, fix f, offer 1, cut, offer 2, merge 1, offer 1, end 1, live 1, live 2, meet 1 2"),
             "kind 1 2 ; tells open past last live tries ; straight ; main has ; line has ended won last has live has fresh ; "
             "line has open all last has live has fresh ; two yes yes yes yes"),
        ]
        for standing, text in rows:
            self.assertEqual(str(standing), text)
            self.assertEqual(Standing.read(text), standing)
            self.assertEqual(Standing.read(text=text).key, standing.key)
        self.holds_both_ways(Standing.read, [BUSY, *[text for _, text in rows]])
        self.refuses_no_texts(Standing.read)
        found = Standing.read(BUSY)
        self.assertEqual((found.is_turned, found.main, found.days), (True, (True, False), (DayStand((True, True), True),)))
        self.assertEqual(found.lines[0], LineStand((True, False), False, ("all", "lost"), (True, False), (True, True), False))

    def test_walked_ones(self):
        for rng in randoms("texts", 120):
            kind = random_kind(rng)
            standing = random_walk(rng, kind, rng.choice(features_for(kind)))
            self.holds_both_ways(Standing.read, [str(standing)])
            self.assertEqual(Standing.read(str(standing)), standing)

    def test_heads(self):
        self.refuses_words(Standing.read, [
            ("", 0), ("kind", 1), ("kind 1", 2), ("kind 1 1", 3), ("kind 3 1 ;", 1), ("kind 1 1 2 ;", 3), ("kind 1 0 1 ;", 3),
            ("kind 1 2 1 2 1 ;", 5), ("kind 1 1 ; tell", 4), ("kind 1 1 ;", 4), ("kind 1 1 tells", 3), ("kind 1 1 ; tells", 5),
            ("kind 1 1 ; tells ;", 5), ("kind 1 1 ; tells - open", 6), ("kind 1 1 ; tells open -", 6), ("kind 1 1 ; tells live", 5),
            ("kind 1 1 ; tells tries", 5), ("kind 1 1 ; tells open live", 6), ("kind 1 1 ; tells past ;", 6),
            ("kind 1 1 ; tells past", 6), ("kind 1 1 ; tells past live", 6), ("kind 1 1 ; tells past last tries", 7),
            ("kind 1 1 ; tells last past", 6), ("kind 1 1 ; tells last open", 6), ("kind 1 1 ; tells last last", 6),
            ("kind 1 1 ; tells last live tries ;", 9), ("kind 1 1 ; tells last live tries open", 8),
            ("kind 1 1 1 ; tells -", 6), ("kind 1 1 1 ; tells open ;", 7), ("kind 1 1 1 ; tells last ;", 7),
            ("kind 1 1 1 ; tells last live ;", 9), ("kind 1 1 1 ; tells past last ;", 8),
            ("kind 1 1 ; tells - ; turned", 7), ("kind 2 1 ; tells - ; straigt", 7), ("kind 2 1 ; tells - ; turned main", 8),
            ("kind 2 1 ; tells - ; turned ; Main", 9), ("kind 2 1 ; tells - ; turned ; main", 10),
            ("kind 2 1 ; tells - ; turned ; main has", 11), ("kind 2 1 ; tells - ; turned ; main has -", 11),
            ("kind 2 1 ; tells - ; turned ; main -", 10), ("kind 0 1 ; tells - ; straight ; main has", 10),
            ("kind 1 0 ; tells - ; straight ; main has lacks", 11), ("kind 1 0 ; tells - ; straight ; main has ;", 12),
            ("kind 1 0 ; tells - ; straight ; main has ; line", 12), ("kind 1 1 ; tells - ; straight ; main has ; day", 12),
            ("kind 1 1 ; tells - ; straight ; main has ; two", 12),
        ])

    def test_lines_and_days(self):
        head = "kind 1 2 1 2 ; tells open past last live tries ; straight ; main has"
        line = " ; line has open all last has live has fresh"
        gone = " ; line has open none last none live none stale"
        n, m = len(head.split(" ")), len(line.split(" ")) - 1
        rows = [
            (" ; day has open", n + 1), (line + line, n + 2 * m), (line + line + " ;", n + 2 * m + 1),
            (line + line + " ; day has open", n + 2 * m + 1), (line + " ; two no no no no", n + m + 1),
            (line + line + line, n + 2 * m + 1), (line + line + " ; two no no no", n + 2 * m + 5),
            (line + line + " ; two no no no no no", n + 2 * m + 6), (line + line + " ; two no no no maybe", n + 2 * m + 5),
            (line + " ; day has open" + line, n + m + 5), (line + " ; day has open ; day has open", n + m + 5),
            (line + line + " ; two yes yes yes yes" + " ; day has open" * 3, n + 2 * m + 6 + 9),
            (line + line + " ; two yes yes yes yes" + line, n + 2 * m + 7),
            (line + gone + " ; two yes no no no", n + 2 * m + 2), (line + gone + " ; two no yes", n + 2 * m + 3),
            (gone + line + " ; two no no yes", n + 2 * m + 4), (gone + gone + " ; two no no no yes", n + 2 * m + 5),
            (line.replace("line has", "line -"), n + 2), (line.replace("open", "shut"), n + 3),
            (line.replace("all", "never"), n + 4), (line.replace("last has", "last some"), n + 6),
            (line.replace("last has", "last -"), n + 6), (line.replace("live has", "live gone"), n + 8),
            (line.replace("last has", "last none"), n + 8), (line.replace("live has", "live none"), n + 9),
            (line.replace("fresh", "old"), n + 9), (line + " ; day -", n + m + 2), (line + " ; day has ended", n + m + 3),
            (line + " ; day has", n + m + 3), (line + " ", n + m), (line + " fresh", n + m), (line + ";", n + m - 1),
        ]
        self.refuses_words(Standing.read, [(head + tail, word) for tail, word in rows])
        self.holds_both_ways(Standing.read, [head, head + line, head + gone, head + line + gone + " ; two no no no no",
                                             head + line + " ; day lacks shut",
                                             head + line + line + " ; two yes no no yes ; day has open ; day lacks open"])

    def test_what_features_do_not_tell(self):
        rows = [
            ("open", "past", "line lacks ended", 2), ("past", "", "line lacks open all", 3),
            ("last", "", "line lacks open none last has", 5), ("live", "last", "line lacks open none last has live has", 7),
        ]
        for feature, others, group, at in rows:
            for told in ALL_FEATURES:
                head = f"kind 1 1 ; tells {' '.join(told) or '-'} ; straight ; main has ; "
                words = group.split(" ")
                if feature not in told and set(others.split()) <= set(told):
                    if feature == "open":
                        self.refuses(self.bad(head, at), Standing.read, head + group)
                    elif "past" not in told or feature != "live":
                        self.refuses(self.bad(head, at), Standing.read, head + " ".join(words))
        for told in (("last",), ("last", "live")):
            head = f"kind 0 2 ; tells {' '.join(told)} ; straight ; main -"
            live = "live some fresh" if "live" in told else "live none stale"
            text = head + f" ; line - open - last some {live}" * 2 + " ; two no no no no"
            self.holds_both_ways(Standing.read, [text])
            self.refuses_words(Standing.read, [(text.replace("two no", "two yes"), len(text.split(" ")) - 4),
                                               (text.replace("- open - last", "- ended - last"), len(head.split(" ")) + 3)])

    def bad(self, head, at):
        from editionlines.errors import BadText
        return BadText(0, len(head.split(" ")) - 1 + at)

    def test_spoilt(self):
        more = ["has", "lacks", "open", "ended", "shut", "none", "all", "some", "last", "live", "fresh", "stale", "yes", "no",
                ";", "line", "day", "two", "main", "straight", "turned", "tells", "past", "tries", "2", "1"]
        texts = [BUSY, "kind 0 0 ; tells - ; straight ; main -"]
        for rng in randoms("spoilt", 3):
            kind = random_kind(rng)
            texts.append(str(random_walk(rng, kind, rng.choice(features_for(kind)))))
        for text in texts:
            self.looks_at_spoilt(Standing.read, text, more)

    def test_later_changes(self):
        kind, fixes, lines = Kind(1, 1), ["f"], [1]
        ground = History.read("f : cut").ground
        standing = Standing.of(ground, fixes, lines, [])
        fixes.append("g")
        lines.clear()
        self.assertEqual(standing.kind, kind)
        before = str(standing)
        standing(Fix("f"))
        list(standing.steps())
        standing.narrowed(Kind(0, 0), ())
        self.assertEqual(str(standing), before)
        self.assertEqual(Shut(1), Shut(1))


if __name__ == "__main__":
    unittest.main()

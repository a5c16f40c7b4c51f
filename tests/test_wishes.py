"""Facts and wishes."""

import itertools
import unittest

from editionlines.errors import BadFact, BadLiteral, BadNeeds, BadWish, TooMany
from editionlines.grounds import Ground
from editionlines.histories import History
from editionlines.kinds import Kind, closed
from editionlines.lots import Lot
from editionlines.needs import Needs
from editionlines.standings import Standing
from editionlines.views import View
from editionlines.wishes import Fact, Wish
from test_kinds import KINDS
from test_standings import DAY, PLACE, TWO, few_of, looks_at
from tools import EditionTest, any_values, random_fact, random_history, random_kind, random_wish, randoms

FIX_WORDS = [word for word in PLACE + DAY if word not in "open ended up unup fresh unfresh shut unshut".split()]
SUBJECTS = {"main": PLACE, "A": PLACE + TWO, "B": PLACE + TWO, "D": DAY, "E": DAY}
OPPOSITES = {"has": "lacks", "lacks": "has", "open": "ended", "ended": "open"}
NAMED = {
    "users": "never 1 2 : A runs F , B bares F , B up", "testers": "never 0 2 : A unmet B , A up , B up",
    "clerks": "never 1 1 1 1 : D keeps F , D shut , E shut , E unkeeps F", "needs": "never 2 1 : A bares G , A runs F",
    "all": "never 1 2 2 : A runs F , A unmet B , D shut , D unkeeps F",
}


def all_facts():
    """All triples (subject, word, thing) of facts."""
    for subject, words in SUBJECTS.items():
        for word in words:
            if word in FIX_WORDS:
                yield from ((subject, word, fix) for fix in "FG")
            elif word in TWO:
                yield subject, word, "B" if subject == "A" else "A"
            else:
                yield subject, word, None


def facts(text):
    return [Fact.read(part) for part in text.split(" , ")]


class FactTest(EditionTest):
    def test_made(self):
        many = 0
        for subject, word, thing in all_facts():
            fact = Fact(subject, word, thing)
            self.assertEqual((fact.subject, fact.word, fact.thing), (subject, word, thing))
            self.assertEqual(fact, Fact(subject=subject, word=word, thing=thing))
            self.assertEqual(str(fact), " ".join(part for part in (subject, word, thing) if part))
            self.assertEqual(Fact.read(str(fact)), fact)
            opposite = OPPOSITES.get(word, word[2:] if word.startswith("un") else "un" + word)
            self.assertEqual(~fact, Fact(subject, opposite, thing))
            self.assertEqual(~~fact, fact)
            self.assertNotEqual(~fact, fact)
            many += 1
        self.assertEqual(many, 3 * (14 * 2 + 6) + 2 * 8 + 2 * (4 * 2 + 2))

    def test_errors(self):
        for value in any_values():
            self.refuses(BadFact("subject"), Fact, value, value, value)
            self.refuses(BadFact("subject"), Fact, value, "has", "F")
            self.refuses(BadFact("word"), Fact, "A", value, value)
            self.refuses(BadFact("word"), Fact, "D", value, "F")
            if value != "F":
                self.refuses(BadFact("thing"), Fact, "A", "has", value)
            self.refuses(BadFact("thing"), Fact, "A", "met", value)
            if value is not None:
                self.refuses(BadFact("thing"), Fact, "A", "up", value)
                self.refuses(BadFact("thing"), Fact, "D", "shut", value)
        rows = [("F", "has", "F", "subject"), ("C", "has", "F", "subject"), ("main", "tried", "A", "word"),
                ("main", "keeps", "F", "word"), ("D", "has", "F", "word"), ("A", "shut", None, "word"),
                ("A", "has", "A", "thing"), ("A", "met", "A", "thing"), ("B", "unmet", "B", "thing"), ("A", "met", "F", "thing"),
                ("A", "open", "F", "thing"), ("A", "has", None, "thing"), ("D", "keeps", "E", "thing"), ("A", "has", "f", "thing")]
        for subject, word, thing, part in rows:
            self.refuses(BadFact(part), Fact, subject, word, thing)
        self.refuses(BadFact("thing"), Fact, "A", "runs")

    def test_equal(self):
        for value in any_values():
            self.assertEqual(Fact("A", "up") == value, type(value) is Fact)
        self.assertNotEqual(Fact("A", "up"), Fact("B", "up"))
        self.assertNotEqual(Fact("A", "has", "F"), Fact("A", "has", "G"))

    def test_texts(self):
        self.refuses_no_texts(Fact.read)
        self.refuses_words(Fact.read, [
            ("", 0), ("A", 1), ("A ", 1), ("F has F", 0), ("A runs", 2), ("A runs A", 2), ("A runs f", 2), ("A up F", 2),
            ("A met", 2), ("A met A", 2), ("B met B", 2), ("main met A", 1), ("main keeps F", 1), ("D has F", 1), ("D keeps", 2),
            ("D shut F", 2), ("A shut", 1), ("A runs F ,", 3), ("a runs F", 0), (" A up", 0), ("A up ", 2),
        ])
        for text in ("A runs F", "A unmet B", "D shut", "main lacks G"):
            self.looks_at_spoilt(Fact.read, text, ["A", "B", "D", "F", "G", "up", "met", "keeps", "main"])


class WishTest(EditionTest):
    def test_made(self):
        wish = Wish(Kind(1, 2), *facts("B up , A runs F , B bares F , A runs F"))
        self.assertEqual(wish, Wish.for_users())
        self.assertEqual((wish.kind, len(wish), wish.features), (Kind(1, 2), 3, ("last", "live")))
        self.assertEqual([str(fact) for fact in wish], ["A runs F", "B bares F", "B up"])
        self.assertEqual(Wish(kind=Kind(1, 2)), Wish(Kind(1, 2)))
        for value in any_values():
            self.assertEqual(value in wish, False)
        self.assertTrue(Fact("B", "up") in wish)
        self.assertFalse(Fact("A", "up") in wish)

    def test_features(self):
        for rng in randoms("looked", 100):
            kind = random_kind(rng)
            wish = random_wish(rng, kind, 6)
            told = [looks_at(fact.word) for fact in wish] + (["live"] if kind.days else [])
            self.assertEqual(wish.features, closed(tuple(feature for feature in told if feature)))
        self.assertEqual(Wish.for_clerks().features, ("last", "live"))
        self.assertEqual(Wish(Kind(0, 1), Fact("A", "ended")).features, ("open",))
        self.assertEqual(Wish(Kind(0, 0)).features, ())

    def test_named(self):
        for name, text in NAMED.items():
            wish = getattr(Wish, "for_" + name)()
            self.assertEqual(str(wish), text)
            self.assertEqual(Wish.read(text), wish)

    def test_errors(self):
        for value in any_values():
            if type(value) is not Kind:
                self.refuses(BadWish("kind"), Wish, value, "no")
            if type(value) is not Fact:
                self.refuses(BadFact(0), Wish, Kind(0, 1), value, "no")
                self.refuses(BadFact(1), Wish, Kind(0, 1), Fact("A", "up"), value)
                self.refuses(BadWish("other"), Wish.for_users().with_fact, value)
            if type(value) is not Wish:
                self.refuses(BadWish("other"), lambda: Wish.for_users() <= value)
            if not isinstance(value, View):
                self.refuses(BadWish("view"), Wish.for_users().breaks, value, "no")
                self.refuses(BadWish("view"), Wish.for_users(), value, "no")
            if value is not None and type(value) is not Needs:
                self.refuses(BadNeeds("needs"), Wish.for_users().breaks, Ground(Lot()), value)
                self.refuses(BadNeeds("needs"), Wish.for_users(), Ground(Lot()), value)

    def test_letters_that_a_kind_lacks(self):
        for fixes, lines, days in KINDS:
            letters = ["F", "G"][:fixes] + ["A", "B"][:lines] + ["D", "E"][:len(days)]
            kind = Kind(fixes, lines, days)
            for subject, word, thing in all_facts():
                named = [letter for letter in (subject, thing) if letter and letter != "main"]
                if all(letter in letters for letter in named):
                    self.assertEqual(len(Wish(kind, Fact(subject, word, thing))), 1)
                else:
                    self.refuses(BadFact(0), Wish, kind, Fact(subject, word, thing), "no")
        self.refuses(BadFact(2), Wish, Kind(1, 1), Fact("A", "up"), Fact("A", "has", "F"), Fact("B", "up"))

    def test_bounds(self):
        nine = facts("A up , A open , A fresh , A has F , A runs F , A gives F , A bares F , A omits F , A missed F")
        self.assertEqual(len(Wish(Kind(1, 1), *nine[:8], *nine[:8])), 8)
        self.refuses(TooMany("facts", 8), Wish, Kind(1, 1), *nine)
        self.refuses(BadFact(9), Wish, Kind(1, 1), *nine, None)
        self.refuses(TooMany("facts", 8), Wish(Kind(1, 1), *nine[:8]).with_fact, nine[8])
        self.assertEqual(Wish(Kind(1, 1), *nine[:8]).with_fact(nine[7]), Wish(Kind(1, 1), *nine[:8]))
        self.refuses(BadFact(1), Wish(Kind(0, 1), Fact("A", "up")).with_fact, Fact("A", "has", "F"))

    def test_order(self):
        one = Wish.for_users()
        more = one.with_fact(Fact("B", "ended"))
        self.assertEqual([more <= one, one <= more, one <= one, more == one], [True, False, True, False])
        self.assertFalse(Wish(Kind(1, 2), *one) != one)
        self.assertFalse(Wish(Kind(2, 2), *one) <= one)
        self.assertTrue(one <= Wish(Kind(1, 2)))
        self.assertNotEqual(Wish(Kind(1, 1)), Wish(Kind(1, 1, (1,))))
        for value in any_values():
            self.assertNotEqual(one, value)

    def test_texts(self):
        self.holds_both_ways(Wish.read, [*NAMED.values(), "never 0 0 : -", "never 2 2 1 2 : -", "never 1 0 : main has F",
                                         "never 1 1 1 : A up , D keeps F , main open"])
        self.refuses_no_texts(Wish.read)
        users = NAMED["users"]
        self.refuses_words(Wish.read, [
            ("", 0), ("never", 1), ("ever 1 2 : -", 0), ("never 1", 2), ("never 3 1 : -", 1), ("never 1 3 : -", 2),
            ("never 1 1", 3), ("never 1 1 2 : -", 3), ("never 1 2 1 2 1 : -", 5), ("never 1 0 1 : -", 3), ("never 1 1 :", 4),
            ("never 1 1 -", 3), ("never 1 1 : - ,", 5), ("never 1 1 : ", 4), ("never 1 1 : B up", 4), ("never 1 1 : D shut", 4),
            ("never 1 0 : A up", 4), ("never 1 1 : A has G", 6), ("never 0 1 : A has F", 6), ("never 0 1 : A has", 6),
            ("never 1 1 : A met B", 5), ("never 1 1 : A untried", 5), ("never 1 2 : A met A", 6), ("never 1 2 : A met", 6),
            ("never 1 2 1 : E shut", 5), ("never 1 2 1 : D shut F", 7), ("never 0 2 1 : D keeps F", 7),
            ("never 1 2 : A runs F ,", 8), ("never 1 2 : A runs F B up", 7), ("never 1 2 : A runs F ; B up", 7),
            ("never 1 2 : A runs F , A runs F", 8), ("never 1 2 : A runs F , A bares F", 8), ("never 1 2 : B up , A runs F", 7),
            ("never 1 2 : B up , A", 7), ("never 1 2 : main open , A up", 7), ("never 1 2 : B up , B bares F", 7),
            (users + " ,", 15), (users + " , main", 16), (users + " , -", 15), (users.replace(" , ", ", "), 6),
        ])
        eight = "never 1 1 : A bares F , A fresh , A gives F , A has F , A missed F , A omits F , A open , A runs F"
        self.holds_both_ways(Wish.read, [eight])
        self.refuses_words(Wish.read, [(eight + " , A up", len(eight.split(" "))), (eight + " A up", len(eight.split(" "))),
                                       (eight + " ,", len(eight.split(" ")))])

    def test_random_texts(self):
        for rng in randoms("wish texts", 100):
            wish = random_wish(rng, random_kind(rng), 8)
            self.holds_both_ways(Wish.read, [str(wish)])
            self.assertEqual(Wish.read(str(wish)), wish)

    def test_spoilt(self):
        """What follows a word that cannot stand changes nothing, but where a fact is told at its first word."""
        more = ["A", "B", "D", "F", "G", ",", ":", "up", "met", "keeps", "main", "never", "2"]
        for text in ("never 0 2 : A unmet B", "never 1 1 1 : D keeps F", "never 2 1 : -"):
            self.looks_at_spoilt(Wish.read, text, more)


class BreaksTest(EditionTest):
    def plain(self, wish, view, needs):
        """All dicts that break a wish, told by a look at all of them."""
        kind = wish.kind
        fixes = [()]
        if kind.fixes == 1:
            fixes = [(fix,) for fix in view.fixes]
        if kind.fixes == 2:
            fixes = [(one, two) for one in view.fixes for two in view.fixes if needs is not None and two in needs[one]]
        found = []
        for some in fixes:
            for lines in itertools.combinations(range(1, view.line_count + 1), kind.lines):
                for days in itertools.combinations(range(1, view.day_count + 1), len(kind.days)):
                    if [view.line_of(day) for day in days] != [lines[at - 1] for at in kind.days]:
                        continue
                    things = dict(zip(["F", "G"], some)) | dict(zip("AB", lines)) | dict(zip("DE", days))
                    if all(self.is_true(fact, view, things) for fact in wish):
                        found.append(things)
        return found

    def is_true(self, fact, view, things):
        place = 0 if fact.subject == "main" else things[fact.subject]
        if fact.subject in "DE":
            return view.day_tells(fact.word, place, things.get(fact.thing))
        if fact.thing in ("A", "B"):
            return view.two_tell(fact.word, place, things[fact.thing])
        return view.place_tells(fact.word, place, things.get(fact.thing))

    def test_by_hand(self):
        ground = History.read("f g : fix f, fix g, cut, offer 1, live 1, drop f 1, cut, drop f 2, offer 2, live 2, cut, drop f 3, "
                              "drop g 3, offer 3, live 3").ground
        self.assertEqual(list(Wish.for_users().breaks(ground)), [
            {"F": "f", "A": 1, "B": 2}, {"F": "f", "A": 1, "B": 3}, {"F": "g", "A": 1, "B": 3}, {"F": "g", "A": 2, "B": 3}])
        self.assertEqual([list(things) for things in Wish.for_users().breaks(ground)][0], ["F", "A", "B"])
        needs = Needs({"g": ["f"]})
        self.assertEqual(list(Wish.for_needs().breaks(ground, needs)), [{"F": "g", "G": "f", "A": 2}])
        self.assertEqual(list(Wish.for_needs().breaks(view=ground, needs=Needs())), [])
        self.assertEqual(list(Wish.for_needs().breaks(ground)), [])
        self.assertEqual([Wish.for_needs()(ground, needs), Wish.for_needs()(ground), Wish.for_users()(ground)], [False, True, False])
        self.assertEqual(list(Wish(Kind(0, 0)).breaks(ground)), [{}])
        self.assertEqual(list(Wish(Kind(0, 0), Fact("main", "ended")).breaks(ground)), [])
        self.assertFalse(Wish(Kind(0, 0), Fact("main", "open"))(ground))
        self.assertEqual(list(Wish(Kind(0, 2)).breaks(ground)), [{"A": 1, "B": 2}, {"A": 1, "B": 3}, {"A": 2, "B": 3}])

    def test_days(self):
        ground = History.read("f : cut, cut, offer 1, offer 2, live 1, live 2, night 1 2, night 1 2, shut 4").ground
        self.assertEqual(list(Wish(Kind(0, 2, (1, 2))).breaks(ground)),
                         [{"A": 1, "B": 2, "D": 1, "E": 2}, {"A": 1, "B": 2, "D": 1, "E": 4}, {"A": 1, "B": 2, "D": 3, "E": 4}])
        self.assertEqual(list(Wish(Kind(0, 2, (2, 1))).breaks(ground)), [{"A": 1, "B": 2, "D": 2, "E": 3}])
        self.assertEqual(list(Wish(Kind(0, 1, (1, 1))).breaks(ground)), [{"A": 1, "D": 1, "E": 3}, {"A": 2, "D": 2, "E": 4}])
        self.assertEqual(list(Wish(Kind(0, 1, (1,)), Fact("D", "shut")).breaks(ground)), [{"A": 2, "D": 4}])

    def test_beside_all(self):
        many = 0
        for rng in randoms("breaks", 150):
            history = random_history(rng, needs=Needs({"f": ["g"], "h": ["f", "g"]}), many=rng.randint(10, 40))
            for _ in range(4):
                wish = random_wish(rng, random_kind(rng), 4)
                for needs in (None, history.needs):
                    found = list(wish.breaks(history.ground, needs))
                    self.assertEqual(found, self.plain(wish, history.ground, needs), str(wish))
                    self.assertIs(wish(history.ground, needs), not found)
                    many += len(found)
                    for things in found:
                        self.assertEqual(list(things), [letter for letter in "FGABDE" if letter in things])
        self.assertGreater(many, 300)

    def test_at_standings(self):
        for rng in randoms("at standings", 80):
            history = random_history(rng, many=35)
            fixes, lines, days = few_of(rng, history.ground)
            standing = Standing.of(history.ground, fixes, lines, days)
            needs = Needs({standing.names[0]: [standing.names[1]]}) if len(fixes) == 2 else None
            for _ in range(4):
                wish = random_wish(rng, random_kind(rng), 3)
                self.assertEqual(list(wish.breaks(standing, needs)), self.plain(wish, standing, needs))

    def test_a_fact_more_breaks_less(self):
        many = 0
        for rng in randoms("more", 80):
            history = random_history(rng, needs=Needs({"f": ["g"]}), many=30)
            wish = random_wish(rng, random_kind(rng), 3)
            fact = random_fact(rng, wish.kind)
            more = wish.with_fact(fact)
            told = list(wish.breaks(history.ground, history.needs))
            less = list(more.breaks(history.ground, history.needs))
            self.assertTrue(more <= wish)
            self.assertTrue(all(things in told for things in less))
            both = less + list(wish.with_fact(~fact).breaks(history.ground, history.needs))
            self.assertEqual(len(both), len(told))
            many += len(told) > len(less) > 0
        self.assertGreater(many, 3)

    def test_what_is_not_told(self):
        standing = Standing.starts(Kind(1, 1), ("last",))[0]
        wish = Wish(Kind(1, 0), Fact("main", "shipped", "F"))
        self.refuses(BadLiteral("features"), wish.breaks, standing)
        self.assertTrue(Wish(Kind(0, 1), Fact("A", "up"))(standing))

    def test_dicts_belong_to_the_caller(self):
        ground = History.read("f : cut, cut").ground
        wish = Wish(Kind(0, 1))
        for things in wish.breaks(ground):
            things["A"] = 7
        self.assertEqual(list(wish.breaks(ground)), [{"A": 1}, {"A": 2}])


if __name__ == "__main__":
    unittest.main()

"""Clauses and cases."""

import itertools
import unittest

from editionlines.clauses import Case, Clause
from editionlines.deeds import Carry, Cut, Day, Deed, Drop, Fix, Live, Meet, Merge, Night, Offer, Probe, Redo, Renew, Rise, Shut, Try
from editionlines.errors import BadClause, BadDeed, BadNeeds, NoDay, NoFix, NoLine, TooMany
from editionlines.histories import History
from editionlines.literals import Literal
from editionlines.needs import Needs
from editionlines.views import View
from test_grounds import BUSY, DAY, PLACE, TWO
from tools import EditionTest, any_values, random_clause, randoms

SCOPES = ("once", "newer", "elder", "need", "user", "day")
TRIES, DAYS = ("try", "probe", "meet"), ("redo", "renew", "shut")
HAS, MET, SHUT = Literal("other", "has"), Literal("other", "met"), Literal("day", "shut")


def scopes_of(kind):
    if kind in TRIES:
        return ("once",)
    return SCOPES[:-1] if kind in DAYS else SCOPES


def is_let(kind, scope, literal):
    """Whether a clause of a kind and a scope can say a literal, by the words of the document."""
    if literal.who == "mate":
        return kind in TRIES
    if literal.who == "other":
        return scope in ("newer", "elder") or (scope in ("need", "user") and literal.word not in TWO)
    if literal.who == "day":
        return kind in DAYS or scope == "day"
    return True


LITERALS = [Literal(who, word) for who, words in (("own", PLACE), ("main", PLACE), ("mate", PLACE + TWO),
                                                 ("other", PLACE + TWO), ("day", DAY)) for word in words]


class MadeTest(EditionTest):
    def test_scopes(self):
        self.assertEqual(Clause.SCOPES, SCOPES)
        for kind in Deed.KINDS:
            for scope in SCOPES:
                if scope in scopes_of(kind):
                    clause = Clause(kind, scope)
                    self.assertEqual((clause.kind, clause.scope, str(clause)), (kind, scope, f"{kind} {scope}: never"))
                else:
                    self.refuses(BadClause("scope"), Clause, kind, scope, None)

    def test_literals(self):
        for kind, scope, literal in itertools.product(Deed.KINDS, SCOPES, LITERALS):
            if scope not in scopes_of(kind):
                continue
            if is_let(kind, scope, literal):
                clause = Clause(kind, scope, literal, literal)
                self.assertEqual(list(clause), [literal])
                self.assertEqual(Clause.read(str(clause)), clause)
                self.assertIs(clause.per_fix, literal.per_fix or scope in ("need", "user"))
                self.assertEqual(clause.features, (literal.feature,) if literal.feature else ())
            else:
                self.refuses(BadClause(literal.who), Clause, kind, scope, literal)

    def test_errors(self):
        for value in any_values():
            if value != "cut" or type(value) is not str:
                self.refuses(BadClause("kind"), Clause, value, value, value)
            self.refuses(BadClause("scope"), Clause, "cut", value, value)
            if type(value) is not Literal:
                self.refuses(BadClause("literal"), Clause, "cut", "once", value)
                self.refuses(BadClause("literal"), Clause, "cut", "once", MET, value)
        self.refuses(BadClause("mate"), Clause, "cut", "once", SHUT, HAS, Literal("mate", "up"))
        self.refuses(BadClause("other"), Clause, "cut", "once", SHUT, HAS)
        self.refuses(BadClause("other"), Clause, "cut", "need", SHUT, HAS, MET)
        self.refuses(BadClause("day"), Clause, "cut", "need", HAS, SHUT)
        self.refuses(BadClause("day"), Clause, "day", "once", SHUT)
        every = [Literal("own", word) for word in PLACE[:7]]
        self.refuses(TooMany("literals", 6), Clause, "cut", "once", *every)
        self.refuses(BadClause("day"), Clause, "cut", "once", *every, SHUT)
        self.assertEqual(len(Clause("cut", "once", *every[:6], *every[:6])), 6)

    def test_as_a_row(self):
        told = [Literal.read(text) for text in ("own up", "other unup", "main has", "other ended")]
        clause = Clause("rise", "elder", *told)
        self.assertEqual([str(literal) for literal in clause], ["main has", "other ended", "other unup", "own up"])
        self.assertEqual([len(clause), clause.per_fix, clause.features], [4, True, ("open", "live")])
        for value in any_values():
            self.assertIs(value in clause, False)
            if type(value) is not Literal:
                self.refuses(BadClause("literal"), lambda: clause | value)
        self.assertIn(Literal("own", "up"), clause)
        self.assertNotIn(Literal("own", "unup"), clause)
        self.assertEqual(clause | told[0], clause)
        self.assertEqual(len(clause | Literal("own", "has")), 5)
        self.refuses(BadClause("mate"), lambda: clause | Literal("mate", "up"))
        full = clause | Literal("own", "has") | Literal("own", "open")
        self.refuses(TooMany("literals", 6), lambda: full | Literal("own", "gives"))
        self.assertEqual(full | told[1], full)
        self.assertEqual(len(clause), 4)

    def test_features_in_order(self):
        clause = Clause("live", "newer", *map(Literal.read, ("other met", "own up", "own gives", "own missed", "other ended")))
        self.assertEqual(clause.features, ("open", "past", "last", "live", "tries"))
        self.assertEqual(Clause("live", "once", Literal("own", "has")).features, ())

    def test_equal(self):
        one = Clause("cut", "elder", HAS, MET)
        self.assertEqual(one, Clause("cut", "elder", MET, HAS, MET))
        for other in (Clause("fix", "elder", HAS, MET), Clause("cut", "newer", HAS, MET), Clause("cut", "elder", HAS)):
            self.assertNotEqual(one, other)
        for value in any_values():
            self.assertEqual(Clause("cut", "once") == value, type(value) is Clause)


class TextsTest(EditionTest):
    def test_both_ways(self):
        self.holds_both_ways(Clause.read, [
            "drop elder: other ended or other lacks", "merge once: never", "try once: mate met or own up",
            "shut once: day keeps or day shut or main has", "day day: day shut or day unkeeps", "renew user: other has",
            "fix newer: main has or other has or other lacks or own has or own lacks or own up",
        ])
        self.refuses_no_texts(Clause.read)
        for rng in randoms("clause texts", 300):
            clause = random_clause(rng)
            self.assertEqual(Clause.read(str(clause)), clause)

    def test_wrong_words(self):
        six = "cut once: main ended or main has or main lacks or main open or main runs or own has"
        self.refuses_words(Clause.read, [
            ("", 0), ("never", 0), ("cuts once: never", 0), ("cut", 1), ("cut once", 1), ("cut once : never", 1),
            ("cut never:", 1), ("cut once:", 2), ("cut once: ", 2), ("cut once: never or own has", 3), ("cut once: never never", 3),
            ("cut  once: never", 1), ("try elder: never", 1), ("meet need: never", 1), ("shut day: never", 1),
            ("redo day: day shut", 1), ("cut once: mate up", 2), ("cut once: other has", 2), ("cut once: day shut", 2),
            ("try once: other has", 2), ("try once: mate keeps", 3), ("cut need: other met", 3), ("cut need: other untried", 3),
            ("cut elder: other keeps", 3), ("cut day: day has", 3), ("cut once: own", 3), ("cut once: own ", 3),
            ("cut once: own tried", 3), ("cut once: own has or", 5), ("cut once: own has or ", 5), ("cut once: own has own", 4),
            ("cut once: own has or own", 6), ("cut once: own has or own has", 6), ("cut once: own up or own has", 6),
            ("cut once: own up or own up", 6), ("cut once: own up or own", 6), ("cut once: own up or main has", 5),
            ("cut elder: own up or other has", 5), ("cut elder: other up or other unup", 6), ("cut once: own has or never", 5),
            (six + " or own up", 19), (six + " or", 19), (six + " own", 19), (six + " ", 19), ("cut once: own has, own up", 3),
            ("day once: day shut", 2), ("merge newer: never;", 2), (" cut once: never", 0),
        ])

    def test_spoilt(self):
        for text in ("merge once: never", "drop elder: other ended or other lacks or own up", "try once: main has or mate met",
                     "renew user: day keeps or other has or own runs"):
            self.looks_at_spoilt(Clause.read, text, ["or", "never", "other", "mate", "day", "has", "met", "once:", "elder:"])


class CasesTest(EditionTest):
    def rows(self, text, deed, needs=None, view=BUSY):
        return [(case.line, case.fix, case.other, case.day) for case in Clause.read(text).cases(view, deed, needs)]

    def test_scopes(self):
        needs = Needs({"f": ["g"], "h": ["f"], "g": ["z"]})
        for text, deed, expected in (
            ("rise once: never", Rise(1, 3), [(1, None, None, None), (3, None, None, None)]),
            ("rise once: own has", Rise(1, 3, upto=1), [(k, fix, None, None) for k in (1, 3) for fix in "fg"]),
            ("rise newer: never", Rise(1, 2), [(1, None, 2, None), (1, None, 3, None), (2, None, 3, None)]),
            ("rise elder: never", Rise(1, 2, 3), [(2, None, 1, None), (3, None, 1, None), (3, None, 2, None)]),
            ("fix once: own has", Fix("g"), [(0, "g", None, None)]),
            ("fix once: own open", Fix("g"), [(0, None, None, None)]),
            ("fix newer: never", Fix("g"), []), ("fix day: never", Fix("g"), []),
            ("fix elder: other has", Fix("g"), [(0, "g", other, None) for other in (1, 2, 3)]),
            ("cut elder: never", Cut(), [(0, None, other, None) for other in (1, 2, 3)]),
            ("cut need: never", Cut(), [(0, "f", "g", None)]),
            ("carry once: own up", Carry("f", 2), [(2, None, None, None)]),
            ("offer need: never", Offer(1), [(1, "f", "g", None)]), ("offer user: never", Offer(1), [(1, "g", "f", None)]),
            ("carry need: never", Carry("g", 1), []), ("carry user: never", Carry("g", 1), [(1, "g", "f", None)]),
            ("drop need: other has", Drop("f", 3), [(3, "f", "g", None)]),
            ("try once: mate has", Try(1, 2), [(1, "f", 2, None), (1, "g", 2, None)]),
            ("probe once: mate up", Probe(2, 1), [(2, None, 1, None)]), ("meet once: never", Meet(1, 3), [(1, None, 3, None)]),
            ("renew once: never", Renew(1, 2), [(1, None, None, 1), (2, None, None, 2)]),
            ("renew elder: day shut", Renew(1, 2, upto=1), [(2, None, 1, 2)]),
            ("renew newer: day keeps", Renew(2), [(2, "f", 3, 2), (2, "g", 3, 2)]),
            ("redo need: day keeps", Redo(1), [(1, "f", "g", 1)]), ("shut once: never", Shut(2), [(2, None, None, 2)]),
            ("live day: day keeps", Live(1), [(1, "f", None, 1), (1, "g", None, 1)]), ("live day: never", Live(3), []),
            ("night day: day shut", Night(1, 2), [(1, None, None, 1), (2, None, None, 2)]),
            ("merge once: never", Merge(1, "f"), [(1, None, None, None)]),
            ("merge once: own has", Merge(1, "f"), [(1, "f", None, None), (1, "g", None, None)]),
            ("day once: never", Night(1), []), ("night once: never", Day(1), []), ("fix once: never", Cut(), []),
        ):
            with self.subTest(text=text, deed=str(deed)):
                self.assertEqual(self.rows(text, deed, needs), expected)

    def test_without_fixes(self):
        bare = History.read("- : cut, offer 1").ground
        self.assertEqual(self.rows("live once: never", Live(1), None, bare), [(1, None, None, None)])
        self.assertEqual(self.rows("live once: own has", Live(1), None, bare), [])
        self.assertTrue(Clause.read("live once: own has")(bare, Live(1)))
        self.assertFalse(Clause.read("live once: own up")(bare, Live(1)))

    def test_without_needs(self):
        for needs in (None, Needs()):
            for scope in ("need", "user"):
                self.assertEqual(self.rows(f"offer {scope}: never", Offer(1), needs), [])

    def test_days_of_one_line(self):
        view = History.read("- : cut, offer 1, cut, offer 2, rise 1 2, night 1 2, night 2, night 1 2").ground
        self.assertEqual(self.rows("live day: never", Live(2), None, view), [(2, None, None, day) for day in (2, 3, 5)])

    def test_errors(self):
        clause = Clause.read("rise elder: other met")
        for call in (lambda *told: next(clause.cases(*told)), clause.failure, clause):
            for value in any_values():
                if not isinstance(value, View):
                    self.refuses(BadClause("view"), call, value, None, 5)
                if not isinstance(value, Deed):
                    self.refuses(BadDeed(None), call, BUSY, value, 5)
                if value is not None and type(value) is not Needs:
                    self.refuses(BadNeeds("needs"), call, BUSY, Rise(6), value)
            for deed, error in ((Rise(1, 4, 5), NoLine(4)), (Carry("z", 6), NoFix("z")), (Carry("f", 6), NoLine(6)),
                                (Merge(5, "z"), NoFix("z")), (Redo(3), NoDay(3)), (Renew(1, 4), NoDay(4)),
                                (Probe(4, 1), NoLine(4)), (Try(1, 6), NoLine(6)), (Night(1, 6, upto=1), NoLine(6))):
                self.refuses(error, call, BUSY, deed)
                self.refuses(error, call, BUSY, deed, Needs())

    def test_also_of_deeds_that_cannot_be_done(self):
        clause = Clause.read("rise once: own up")
        self.assertFalse(BUSY.can(Rise(2, 3)))
        self.assertEqual(clause.failure(BUSY, Rise(2, 3)), Case(3, None, None, None))
        self.assertEqual(len(list(Clause.read("offer once: never").cases(BUSY, Offer(2)))), 1)

    def test_a_generator_goes_by_the_first_request(self):
        made = Clause.read("rise once: never").cases(None, None)
        self.assertRaises(BadClause, lambda: next(made))

    def test_failure(self):
        clause = Clause.read("rise elder: other probed or other unup")
        self.assertEqual(clause.failure(BUSY, Rise(2, 3)), Case(2, None, 1, None))
        self.assertEqual(clause.failure(view=BUSY, deed=Rise(3), needs=None), Case(3, None, 1, None))
        self.assertIsNone(clause.failure(BUSY, Rise(1)))
        self.assertEqual([clause(BUSY, Rise(2, 3)), clause(BUSY, Rise(1)), clause(BUSY, Live(2))], [False, True, True])
        needing = Clause.read("offer need: other has or own lacks")
        view = History.read("f g : fix f, cut").ground
        told = Needs({"f": ["g"]})
        self.assertEqual([needing(view, Offer(1)), needing(view, Offer(1), told)], [True, False])
        self.assertEqual(needing.failure(view, Offer(1), needs=told), Case(1, "f", "g", None))


if __name__ == "__main__":
    unittest.main()

"""Books compared, and looking at what is told."""

import itertools
import unittest
from unittest import mock

from editionlines import tables
from editionlines.books import Book
from editionlines.clauses import Clause
from editionlines.compared import Follows, Parting, Within, alike, features_with, follows, kind_of, lean, needless, within
from editionlines.cutting import few_things
from editionlines.deeds import Deed
from editionlines.errors import BadBook, BadClause, TooMany
from editionlines.histories import History
from editionlines.judging import Holds
from editionlines.kinds import FEATURES, Kind, closed
from editionlines.lots import Lot
from editionlines.look_compared import shows_follows, shows_within
from editionlines.needs import Needs
from editionlines.papers import Denial, Paper
from editionlines.standings import Standing
from editionlines.tables import let_deeds, needs_of, walked
from test_standings import looks_at
from tools import EditionTest, any_values, random_book, random_clause, random_deed, random_history, randoms

WALKERS = ("cut", "carry", "drop", "offer", "live", "rise", "fix", "unfix", "merge", "down", "night", "day", "end", "try",
           "probe", "meet", "redo", "renew", "shut")
UP_FIRST = Book.read("carry elder: other has; drop once: never; unfix once: never")
BOTH = UP_FIRST & Book.read("cut elder: main lacks or other has; merge elder: main lacks or other has")
OFFERED = Clause.read("offer elder: other has or own lacks")
# Of each clause a book from which it follows, and one from which it does not.
ROWS = [
    ("drop once: own unshipped", "drop once: own ungives", "fix once: never"),
    ("drop once: own ungives", "drop once: own unshipped", "drop once: own unruns"),
    ("offer need: other has or own lacks",
     "carry need: other has; drop user: other lacks; fix need: other has; merge once: never; unfix user: other lacks", "-"),
    ("offer user: other lacks or own has",
     "carry need: other has; drop user: other lacks; fix need: other has; merge once: never; unfix user: other lacks",
     "fix need: other has; unfix user: other lacks"),
    ("live elder: other probed or other unup", "live elder: other probed", "live elder: other tried or other unup"),
    ("live elder: other tried or other unup", "rise once: never; live elder: other unup", "meet once: never; rise once: never"),
    ("meet once: mate unmet", "meet once: never", "probe once: never"),
    ("probe once: own open", "end once: own unfresh; live once: never; rise once: never", "end once: own unfresh"),
    ("try once: mate omits or own gives", "merge once: never; carry once: never; fix once: never", "fix once: never"),
    ("rise elder: other up", "rise once: never", "rise elder: other gives"),
    ("cut elder: other open", "end once: never", "end elder: never"),
    ("fix newer: never", "-", None),
    ("unfix elder: other has", "unfix once: never", "drop once: never"),
    ("carry once: main has", "carry elder: never; carry once: main has or own ended", "-"),
    ("merge day: day shut", "day once: never; night once: never", "day once: never"),
    ("end day: day unshut", "shut once: never", "redo once: never"),
    ("redo once: day alike", "down once: never; live once: own unup; rise once: own unup", "live once: own unup"),
    ("renew elder: other up", "day elder: other up; night elder: other up; down newer: other unup; down once: never",
     "day elder: other up; night elder: other up"),
    ("shut newer: other unup", "shut once: never", "live elder: other unup"),
    ("shut once: day alike or day keeps", "shut once: day alike", "shut once: day alike or day unkeeps"),
    ("down once: own up", "-", None), ("night once: own up", "-", None), ("live once: own unfresh", "-", None),
    ("offer once: own open", "-", None), ("redo once: day unshut or own ended", "-", None), ("drop once: own has", "-", None),
    ("night day: day alike", "live once: own unup; rise once: own unup; down once: never", "-"),
    ("day once: own runs", "offer once: own has", "offer once: own has or own up"),
]


def fewer_standings(most=1500):
    """A lesser bound of walked, so that random tests take less time."""
    return mock.patch.object(tables, "MOST_STANDINGS", most)


def texts(book):
    return [str(clause) for clause in book]


def book(text):
    return Book(*[Clause.read(part) for part in text.split("; ")]) if text != "-" else Book()


def plain_parting(one, clause, most):
    """The least number of deeds of a history of few things that a book lets, and whose last deed a clause does not let."""
    kind = kind_of(clause)
    orders = [("f", "g")[:kind.fixes]] if kind.fixes < 2 else [("f", "g"), ("g", "f")]
    level = []
    for order in orders:
        level.append(History(Lot(*order), (), Needs({order[0]: [order[1]]}) if kind.fixes == 2 else None))
    rule = Book(clause)
    for length in range(1, most + 1):
        later = {}
        for history in level:
            ground = history.ground
            told = Standing.of(ground, history.lot.fixes, tuple(range(1, ground.line_count + 1)),
                               tuple(range(1, ground.day_count + 1)))
            for deed in told.askable():
                if one(history, deed):
                    if not rule(history, deed):
                        return length
                    if not (deed.KIND == "cut" and ground.line_count == kind.lines):
                        longer = history + deed
                        days = [longer.ground.line_of(day) for day in range(1, longer.ground.day_count + 1)]
                        if days == list(kind.days[:len(days)]):
                            key = str(Standing.of(longer.ground, history.lot.fixes,
                                                  tuple(range(1, longer.ground.line_count + 1)),
                                                  tuple(range(1, len(days) + 1)))) + str(history.needs)
                            later.setdefault(key, longer)
        level = list(later.values())
    return None


class KindTest(EditionTest):
    def test_kinds(self):
        rows = {
            "fix once: never": "kind 1 0", "fix newer: never": "kind 1 1", "fix elder: other up": "kind 1 1",
            "fix need: other has": "kind 2 0", "unfix user: other has": "kind 2 0", "fix day: never": "kind 1 0",
            "cut once: never": "kind 0 0", "cut elder: other up": "kind 0 1", "cut once: main has": "kind 1 0",
            "cut user: main up": "kind 2 0", "cut day: day shut": "kind 0 0", "cut newer: never": "kind 0 1",
            "carry once: own up": "kind 1 1", "carry elder: other up": "kind 1 2", "drop need: own up": "kind 2 1",
            "carry day: day shut": "kind 1 1 1", "merge once: never": "kind 0 1", "merge newer: own has": "kind 1 2",
            "end day: day keeps": "kind 1 1 1", "offer day: own up": "kind 0 1 1", "offer user: other has": "kind 2 1",
            "try once: never": "kind 0 2", "probe once: own has": "kind 1 2", "meet once: mate up": "kind 0 2",
            "live newer: other tried": "kind 0 2", "rise once: never": "kind 0 1", "down elder: never": "kind 0 2",
            "day once: never": "kind 0 1", "night day: day alike": "kind 1 1 1", "redo once: never": "kind 0 1 1",
            "redo elder: other up": "kind 0 2 2", "renew newer: day keeps": "kind 1 2 1", "shut need: other has": "kind 2 1 1",
            "shut elder: other has": "kind 1 2 2", "renew user: day shut": "kind 2 1 1",
        }
        for text, kind in rows.items():
            self.assertEqual(str(kind_of(Clause.read(text))), kind, text)
            found = follows(Book(), Clause.read(text))
            if found:
                self.assertEqual({str(standing.kind) for standing in found.table}, {kind})

    def test_features(self):
        for rng in randoms("features with", 150):
            one, clause = random_book(rng, 3), random_clause(rng)
            told = [looks_at(literal.word) for part in (*one, clause) for literal in part]
            told += {"try": ["last"], "probe": ["live"], "meet": ["live"], "live": ["live"], "rise": ["live"], "down": ["live"],
                     "day": ["live"], "night": ["live"]}.get(clause.kind, [])
            told += ["live"] if kind_of(clause).days else []
            self.assertEqual(features_with(one, clause), closed(tuple(word for word in told if word)))


class FollowsTest(EditionTest):
    def test_papers(self):
        self.assertIsInstance(Follows(table=()), Paper)
        self.assertIsInstance(Within(tables=()), Paper)
        self.assertIsInstance(Parting(history=None), Denial)
        self.assertEqual([bool(Follows(())), bool(Within(())), bool(Parting(1))], [True, True, False])
        self.assertEqual([Follows(1).table, Within(2).tables, Parting(3).history], [1, 2, 3])
        self.assertNotEqual(Follows(()), Within(()))

    def test_by_hand(self):
        for clause, good, bad in ROWS:
            with self.subTest(clause=clause):
                rule = Clause.read(clause)
                found = follows(book(good), rule)
                self.assertTrue(found, found)
                self.assertTrue(shows_follows(book(good), rule, found))
                self.look_at_table(book(good), rule, found.table)
                if bad is not None:
                    parted = follows(book(bad), rule)
                    self.assertFalse(parted)
                    self.assertTrue(shows_follows(book(bad), rule, parted))
                    self.look_at_parting(book(bad), rule, parted.history)

    def look_at_table(self, one, clause, table):
        kind, features = kind_of(clause), features_with(one, clause)
        self.assertIsInstance(table, tuple)
        keys = {standing.key for standing in table}
        self.assertEqual(len(keys), len(table))
        self.assertTrue(all(start.key in keys for start in Standing.starts(kind, features)))
        for standing in table:
            self.assertEqual((standing.kind, standing.features), (kind, features))
            self.assertTrue(all(later.key in keys for _, later in let_deeds(one, standing)))
            for deed in standing.askable(clause.kind):
                if one.refusal_at(standing, deed, needs_of(standing)) is None:
                    self.assertTrue(clause(standing, deed, needs_of(standing)))

    def look_at_parting(self, one, clause, history):
        self.assertIsNone(one.lets(history))
        self.assertEqual(Book(clause).lets(history), len(history) - 1)
        if len(history) <= 6:
            self.assertEqual(plain_parting(one, clause, 6), len(history), str(history))
        else:
            self.assertIsNone(plain_parting(one, clause, 5))

    def test_random_ones(self):
        seen = {True: 0, False: 0}
        for rng in randoms("follows", 120):
            one, clause = random_book(rng, 5, WALKERS), random_clause(rng, rng.choice(WALKERS))
            try:
                with fewer_standings():
                    found = follows(one, clause)
            except TooMany:
                continue
            seen[bool(found)] += 1
            self.assertTrue(shows_follows(one, clause, found))
            if found:
                if len(found.table) < 300:
                    self.look_at_table(one, clause, found.table)
            else:
                self.assertIsNone(one.lets(found.history))
                self.assertEqual(Book(clause).lets(found.history), len(found.history) - 1)
        self.assertGreater(min(seen.values()), 10)

    def test_every_kind_and_scope(self):
        """A clause follows from a book with a clause of fewer literals, or with never; from none only if nothing refuses it."""
        seen = {}
        for rng in randoms("scopes", 250):
            clause = random_clause(rng)
            less = Clause(clause.kind, clause.scope, *[literal for literal in clause if rng.random() < 0.5])
            try:
                with fewer_standings():
                    self.assertTrue(follows(Book(less), clause), (str(less), str(clause)))
                    self.assertTrue(follows(Book(Clause(clause.kind, "once")), clause))
            except TooMany:
                continue
            seen[clause.kind, clause.scope] = True
        self.assertGreater(len(seen), 55)

    def test_fewest_deeds(self):
        many = 0
        for rng in randoms("fewest", 100):
            one, clause = random_book(rng, 3, WALKERS), random_clause(rng, rng.choice(WALKERS))
            if "day" in str(kind_of(clause)) or kind_of(clause).fixes == 2 and kind_of(clause).lines == 2:
                continue
            expected = plain_parting(one, clause, 4)
            try:
                with fewer_standings():
                    found = follows(one, clause)
            except TooMany:
                self.assertIsNone(expected)
                continue
            if expected is None:
                self.assertTrue(found or len(found.history) > 4)
            else:
                self.assertEqual(len(found.history), expected, (str(one), str(clause), str(found.history)))
                many += 1
        self.assertGreater(many, 15)

    def test_what_follows_is_let_in_large_histories(self):
        many = 0
        for rng in randoms("large", 250):
            one, clause = random_book(rng, 4, WALKERS), random_clause(rng, rng.choice(WALKERS))
            try:
                with fewer_standings():
                    found = follows(one, clause)
            except TooMany:
                continue
            if found:
                kept = History(random_history(rng, many=0).lot, (), Needs({"f": ["g"], "h": ["f"]}))
                for _ in range(80):
                    deed = random_deed(rng, "fgh", 3, 4)
                    if kept.ground.can(deed) and one(kept, deed) and not (deed.KIND == "cut" and kept.ground.line_count == 3):
                        self.assertTrue(Book(clause)(kept, deed), (str(one), str(clause), str(kept), str(deed)))
                        kept = kept + deed
                        many += deed.KIND == clause.kind
        self.assertGreater(many, 40)

    def test_errors(self):
        for value in any_values():
            if type(value) is not Book:
                for call in (follows, lambda one, clause: shows_follows(one, clause, None)):
                    self.refuses(BadBook("book"), call, value, value)
                for call in (within, alike, lambda one, other: shows_within(one, other, None)):
                    self.refuses(BadBook("one"), call, value, value)
                    self.refuses(BadBook("other"), call, Book(), value)
                self.refuses(BadBook("book"), needless, value)
                self.refuses(BadBook("book"), lean, value)
            if type(value) is not Clause:
                self.refuses(BadClause("clause"), follows, Book(), value)
                self.refuses(BadClause("clause"), shows_follows, Book(), value, None)

    def test_too_many(self):
        clause = Clause.read("rise elder: other has or other missed or other tried or other up or own ended or own unup")
        one = Book(clause, Clause.read("offer elder: other open or own missed"))
        wide = Clause.read("rise elder: other has or other missed or other tried or other up or own ended or own open")
        try:
            list(walked(one, kind_of(wide), features_with(one, wide)))
            self.fail("not too many")
        except TooMany:
            pass
        # A line that is not open is ended: this clause follows, which takes too many standings to see.
        self.refuses(TooMany("standings", 20000), follows, one, wide)
        self.refuses(TooMany("standings", 20000), within, one, Book(wide))
        never = Clause.read("rise elder: never")
        self.assertEqual(len(follows(one & Book.read("live once: never"), never).history), 4)
        parting = follows(Book.read("offer elder: other open or own missed"), Clause.read("rise elder: other has or other tried"))
        self.assertFalse(parting)
        self.refuses(TooMany("standings", 20000), needless, one & Book(wide))
        self.refuses(TooMany("standings", 20000), lean, one & Book(wide))


class WithinTest(EditionTest):
    def test_by_hand(self):
        found = within(BOTH, UP_FIRST)
        self.assertIsInstance(found, Within)
        self.assertEqual(len(found.tables), 3)
        self.assertEqual(found, Within(tuple(follows(BOTH, clause).table for clause in UP_FIRST)))
        parted = within(UP_FIRST, BOTH)
        self.assertEqual(parted, follows(UP_FIRST, Clause.read("cut elder: main lacks or other has")))
        self.assertEqual(within(one=Book(), other=Book()), Within(()))
        self.assertEqual(within(BOTH, Book()), Within(()))
        self.assertTrue(alike(BOTH, BOTH & Book(OFFERED)))
        self.assertIs(alike(one=BOTH, other=UP_FIRST), False)
        self.assertIs(alike(UP_FIRST, BOTH), False)

    def test_random_ones(self):
        seen = {True: 0, False: 0}
        for rng in randoms("within", 90):
            one, other = random_book(rng, 4, ("cut", "carry", "drop", "offer", "end")), random_book(rng, 2, WALKERS[:6])
            if rng.random() < 0.5:
                other = Book(*[clause for clause in one][:2])
            try:
                with fewer_standings():
                    found = within(one, other)
                    told = [follows(one, clause) for clause in other]
                    back = within(other, one)
                    is_alike = alike(one, other)
                    self.assertEqual(alike(one & other, one), bool(found))
            except TooMany:
                continue
            seen[bool(found)] += 1
            if found:
                self.assertEqual(found, Within(tuple(part.table for part in told)))
            else:
                self.assertEqual(found, [part for part in told if not part][0])
            self.assertTrue(shows_within(one, other, found))
            self.assertIs(is_alike, bool(found) and bool(back))
        self.assertGreater(min(seen.values()), 8)

    def test_needless_and_lean(self):
        many = 0
        for rng in randoms("needless", 40):
            kinds = ("cut", "carry", "drop", "offer", "fix")
            one = random_book(rng, 4, kinds) & random_book(rng, 2, kinds)
            try:
                with fewer_standings():
                    self.look_at_needless(one)
            except TooMany:
                continue
            many += 1
        self.assertGreater(many, 15)
        # Each of two follows from the other one; one of them is left.
        twice = Book.read("cut elder: other open; end once: never; fix newer: never")
        self.assertEqual([str(clause) for clause in needless(twice)], ["cut elder: other open", "fix newer: never"])
        same_ones = Book.read("down once: never; down once: own unup")
        self.assertEqual(texts(needless(same_ones)), ["down once: never", "down once: own unup"])
        self.assertEqual(texts(lean(same_ones)), ["down once: own unup"])
        self.assertEqual((needless(Book()), lean(Book())), ((), Book()))


    def look_at_needless(self, one):
        found = needless(one)
        self.assertEqual(found, tuple(clause for clause in one if follows(one - Book(clause), clause)))
        left = lean(one)
        expected = one
        for clause in one:
            if follows(expected - Book(clause), clause):
                expected = expected - Book(clause)
        self.assertEqual(left, expected)
        self.assertTrue(alike(left, one))
        self.assertEqual(needless(left), ())


class CutDownTest(EditionTest):
    def test_a_refused_deed_is_refused_of_few_things(self):
        """[12]: of a history that a book does not let it does not let some cut-down to two fixes, lines and days."""
        many = 0
        for rng in randoms("few things", 100):
            history, one = random_history(rng, needs=Needs({"f": ["g"]}), many=25), random_book(rng, 6)
            at = one.lets(history)
            if at is None:
                continue
            ended = history.ahead(at + 1)
            found = False
            last = ended[-1]
            whole = Deed.read(str(last).split(" to ")[0])
            ended = ended.ahead(at) + whole
            for fixes, lines, days in itertools.product(range(3), repeat=3):
                found = found or any(one.lets(ended.only(*few)) is not None for few in few_things(ended, fixes, lines, days))
            self.assertTrue(found, (str(one), str(ended)))
            many += 1
        self.assertGreater(many, 20)

    def test_a_book_lets_what_is_cut_down(self):
        for rng in randoms("cut down", 30):
            history, one = random_history(rng, needs=Needs({"f": ["g"]}), many=20), random_book(rng, 6)
            at = one.lets(history)
            let = history if at is None else history.ahead(at)
            for fixes, lines, days in ((1, 1, 0), (2, 2, 1), (0, 2, 2), (3, 1, 1)):
                for few in list(few_things(let, fixes, lines, days))[:6]:
                    self.assertIsNone(one.lets(let.only(*few)))


class ShowsTest(EditionTest):
    def test_bent_tables(self):
        for clause, good, _ in ROWS:
            one, rule = book(good), Clause.read(clause)
            table = list(follows(one, rule).table)
            self.assertTrue(shows_follows(one, rule, Follows(tuple(reversed(table)))))
            self.assertTrue(shows_follows(one, rule, Follows(tuple(table + table[:3]))))
            for k in list(range(len(table)))[:40]:
                self.assertFalse(shows_follows(one, rule, Follows(tuple(table[:k] + table[k + 1:]))), (clause, k))
            self.assertFalse(shows_follows(one, rule, Follows(table)))
            self.assertFalse(shows_follows(one, rule, Holds(tuple(table))))
            self.assertFalse(shows_follows(one, rule, Within((tuple(table),))))
            self.assertFalse(shows_follows(one, rule, Follows(())))
            for other in (Standing.starts(Kind(2, 2), FEATURES)[1], None, table[0].key):
                self.assertFalse(shows_follows(one, rule, Follows((*table, other))))
            # Tables exchanged.
            for other, text, _ in ROWS[:4]:
                if other != clause:
                    found = follows(book(text), Clause.read(other))
                    fits = (kind_of(rule), features_with(one, rule)) == (found.table[0].kind, found.table[0].features)
                    self.assertTrue(fits or not shows_follows(one, rule, found))

    def test_turned_and_without_a_start(self):
        rule = Clause.read("fix need: other has or other lacks")
        found = follows(Book(), rule)
        half = tuple(standing for standing in found.table if not standing.is_turned)
        self.assertEqual(len(found.table), 2 * len(half))
        self.assertFalse(shows_follows(Book(), rule, Follows(half)))
        self.assertTrue(shows_follows(Book(), rule, found))
        self.assertFalse(shows_follows(Book(), rule, Follows(found.table[1:])))

    def test_not_reached(self):
        one, rule = Book.read("end once: never"), Clause.read("cut elder: other has or other open")
        found = follows(one, rule)
        self.assertTrue(found)
        gone = Standing.read("kind 1 1 ; tells open ; straight ; main lacks ; line has ended none last none live none stale")
        has = Standing.read("kind 1 1 ; tells open ; straight ; main has ; line has ended none last none live none stale")
        self.assertTrue(shows_follows(one, rule, Follows((*found.table, gone, has))))
        self.assertFalse(shows_follows(one, rule, Follows((*found.table, gone))))
        # At this one the clause does not let a cut.
        lacks = [Standing.read(str(standing).replace("line has", "line lacks")) for standing in (gone, has)]
        self.assertFalse(shows_follows(one, rule, Follows((*found.table, gone, has, *lacks))))

    def test_partings(self):
        parted = follows(UP_FIRST, OFFERED)
        self.assertTrue(shows_follows(UP_FIRST, OFFERED, parted))
        history = parted.history
        for k in range(len(history)):
            self.assertFalse(shows_follows(UP_FIRST, OFFERED, Parting(history.ahead(k))))
        longer = history + History.read("f : cut, cut, cut, offer 1").deeds[2:]
        self.assertTrue(shows_follows(UP_FIRST, OFFERED, Parting(longer)))
        self.assertFalse(shows_follows(BOTH, OFFERED, Parting(history)))
        wide = History.read("a b : cut, fix b, cut, offer 1, offer 2")
        self.assertTrue(shows_follows(UP_FIRST, OFFERED, Parting(wide)))
        self.assertTrue(shows_within(UP_FIRST, Book(OFFERED), Parting(wide)))
        self.assertTrue(shows_within(UP_FIRST, BOTH, Parting(History.read("a b : cut, fix b, cut"))))
        self.assertFalse(shows_within(BOTH, UP_FIRST, Parting(History.read("a b : cut, fix b, cut"))))
        self.assertFalse(shows_within(UP_FIRST, UP_FIRST, Parting(wide)))
        self.assertFalse(shows_within(UP_FIRST, Book(), Parting(wide)))
        # Let by neither.
        neither = wide + History.read("a b : fix b, unfix b").deeds[1:]
        self.assertFalse(shows_follows(UP_FIRST, OFFERED, Parting(neither)))

    def test_bent_withins(self):
        found = within(BOTH, UP_FIRST)
        tables = found.tables
        self.assertTrue(shows_within(BOTH, UP_FIRST, found))
        self.assertTrue(shows_within(BOTH, UP_FIRST, Within(tuple(tuple(reversed(table)) for table in tables))))
        for bent in (tables[:2], (*tables, tables[0]), list(tables), (tables[1], tables[0], tables[2]), (list(tables[0]), *tables[1:]),
                     (tables[0][1:], *tables[1:]), (tables[0], (), tables[2]), (), None, (None, None, None)):
            is_right = isinstance(bent, tuple) and len(bent) == 3 and None not in bent and all(
                isinstance(table, tuple) and shows_follows(BOTH, clause, Follows(table))
                for table, clause in zip(bent, UP_FIRST))
            self.assertIs(shows_within(BOTH, UP_FIRST, Within(bent)), is_right)
        self.assertFalse(shows_within(BOTH, UP_FIRST, Follows(tables[0])))
        self.assertTrue(shows_within(BOTH, Book(), Within(())))
        self.assertFalse(shows_within(BOTH, Book(), Within(tables)))

    def test_any_values(self):
        never = Clause.read("cut once: never")
        for value in any_values():
            self.assertIs(shows_follows(Book(), never, value), False)
            self.assertIs(shows_follows(Book(), never, Follows(value)), False)
            self.assertIs(shows_follows(Book(), never, Follows((value,))), False)
            self.assertIs(shows_follows(Book(), never, Parting(value)), False)
            self.assertIs(shows_within(Book(), Book(never), value), False)
            self.assertIs(shows_within(Book(), Book(never), Within(value)), False)
            self.assertIs(shows_within(Book(), Book(never), Within((value,))), False)
            self.assertIs(shows_within(Book(), Book(never), Parting(value)), False)


if __name__ == "__main__":
    unittest.main()

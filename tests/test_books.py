"""Books."""

import itertools
import unittest

from editionlines.books import Book, Refusal
from editionlines.clauses import Case, Clause
from editionlines.deeds import Cut, Deed, Fix, Live, Merge, Night, Offer, Probe, Renew, Rise
from editionlines.errors import (BadBook, BadClause, BadDeed, BadHistory, BadNeeds, NoDay, NoFix, NoLine, TooMany,
                                 Undone)
from editionlines.histories import History
from editionlines.literals import Literal
from editionlines.lots import Lot
from editionlines.needs import Needs
from editionlines.views import View
from tools import EditionTest, any_values, random_clause, random_deed, random_history, randoms

KINDS = Deed.KINDS
# 24 clauses, and one more that is greater than all of them.
MANY = sorted([Clause(kind, "once") for kind in KINDS] + [Clause(kind, "need") for kind in ("cut", "day", "fix", "end", "down")],
              key=str)
MORE = Clause("unfix", "user")


def random_book(rng, many):
    return Book(*[random_clause(rng) for _ in range(many)])


class MadeTest(EditionTest):
    def test_clauses(self):
        one, two, three = Clause.read("fix once: never"), Clause.read("cut once: never"), Clause.read("fix elder: other has")
        book = Book(one, two, three, one)
        self.assertEqual([len(book), list(book)], [3, [two, three, one]])
        self.assertEqual([book["fix"], book["cut"], book["shut"]], [(three, one), (two,), ()])
        self.assertEqual([one in book, MORE in book], [True, False])
        self.assertEqual(Book.of([one, two, three]), book)
        self.assertEqual(Book.of((one, two, three)), book)
        for value in any_values():
            if type(value) is not Clause:
                self.refuses(BadBook("clause"), Book, value)
                self.refuses(BadBook("clause"), Book, *MANY, MORE, value)
                self.refuses(BadBook("clause"), Book.of, [one, value])
            if not isinstance(value, (list, tuple)):
                self.refuses(BadBook("clauses"), Book.of, value)
            if value != "cut":
                self.refuses(BadClause("kind"), lambda: book[value])
            self.assertIs(value in Book(one), False)
            self.assertEqual(Book() == value, type(value) is Book and len(value) == 0)

    def test_most(self):
        self.assertEqual(len(Book(*MANY, *MANY)), 24)
        self.refuses(TooMany("clauses", 24), Book, *MANY, MORE)
        self.refuses(TooMany("clauses", 24), Book.of, [*MANY, MORE])
        full = Book.of(MANY)
        self.refuses(TooMany("clauses", 24), lambda: full & Book(MORE))
        self.assertEqual(full & full, full)

    def test_features(self):
        self.assertEqual(Book().features, ())
        book = Book.read("cut elder: other unmet or other unmissed; fix elder: other ended; live once: own fresh")
        self.assertEqual(book.features, ("open", "past", "live", "tries"))
        self.assertEqual(Book.for_needs().features, ())

    def test_operators(self):
        clauses = [Clause.read("fix once: never"), Clause.read("cut once: never"), Clause.read("fix elder: other has")]
        subsets = [some for many in range(4) for some in itertools.combinations(clauses, many)]
        for one, other in itertools.product(subsets, repeat=2):
            left, right = Book(*one), Book(*other)
            self.assertEqual(left & right, Book(*one, *other))
            self.assertEqual(left | right, Book(*[clause for clause in one if clause in other]))
            self.assertEqual(left - right, Book(*[clause for clause in one if clause not in other]))
            a, b = {str(clause) for clause in one}, {str(clause) for clause in other}
            told = [left <= right, left < right, left >= right, left > right, left == right, left != right]
            self.assertEqual(told, [a >= b, a > b, a <= b, a < b, a == b, a != b])
            self.assertTrue(all(type(each) is bool for each in told))
        book = Book(*clauses)
        for value in any_values():
            if type(value) is not Book:
                for call in (lambda: book & value, lambda: book | value, lambda: book - value, lambda: book <= value,
                             lambda: book < value, lambda: book >= value, lambda: book > value):
                    self.refuses(BadBook("other"), call)

    def test_later_changes(self):
        clauses = [Clause.read("fix once: never")]
        book = Book.of(clauses)
        clauses.append(MORE)
        self.assertEqual(len(book), 1)


class TextsTest(EditionTest):
    def test_both_ways(self):
        full = "; ".join(map(str, MANY))
        self.holds_both_ways(Book.read, ["-", "cut once: never", "cut once: never; drop once: own unshipped", full])
        self.refuses_no_texts(Book.read)
        for rng in randoms("books", 60):
            book = random_book(rng, rng.randint(0, 8))
            self.assertEqual(Book.read(str(book)), book)

    def test_named(self):
        for book in (Book.for_users(), Book.for_testers(), Book.for_needs(), Book.for_clerks()):
            self.assertEqual(Book.read(str(book)), book)
        self.assertEqual([len(Book.for_users()), len(Book.for_testers()), len(Book.for_needs()), len(Book.for_clerks())],
                         [6, 3, 1, 3])

    def test_wrong_words(self):
        full = "; ".join(map(str, MANY))
        many = len(full.split(" "))
        self.refuses_words(Book.read, [
            ("", 0), (" ", 0), ("- -", 1), ("- cut", 1), ("-;", 0), ("cut once: never;", 3), ("cut once: never; ", 3),
            ("cut once: never;; fix once: never", 2), ("cut once: never ; fix once: never", 3), ("; cut once: never", 0),
            ("cut once: never; -", 3), ("cut once: never; cut once: never", 3), ("fix once: never; cut once: never", 3),
            ("fix once: never; fix elder: never", 3),
            ("cut once: never; fix once: never; fix elder: never", 6), ("cut once: never; fix once: never; drop", 6), ("fix once: never; fix once: own has; cut", 7), ("fix once: never; cut zero", 3),
            ("cut once: never; fix once: own", 6), ("cut once: never; fix once: own tried", 6), ("cut once: never fix", 3),
            ("cut once: own has or; fix once: never", 5), ("cut once: never; fix once:", 5), ("cut once: never; fix;", 4),
            ("cut once: never, fix once: never", 2), (full + "; " + str(MORE), many), (full + ";", many),
            (full + "; unfix", many),
        ])

    def test_spoilt(self):
        for text in ("-", "cut once: never; drop elder: other has or own up; fix newer: main has"):
            self.looks_at_spoilt(Book.read, text, ["never;", "zero once:", "fix", "or", "has", "has;", "other"])


class LetsTest(EditionTest):
    WENT = "f g : fix f, cut, cut, offer 1, offer 2, live 1"

    def test_errors_in_order(self):
        gate, went = Book.for_testers(), History.read(self.WENT)
        for call in (gate.refusal, gate):
            for value in any_values():
                if type(value) is not History:
                    self.refuses(BadHistory("history"), call, value, None)
                    self.refuses(BadHistory("history"), gate.lets, value)
                if not isinstance(value, Deed):
                    self.refuses(BadDeed(None), call, went, value)
            self.refuses(BadDeed(None), call, went, [Cut()])
            for deed, error in ((Fix("z"), NoFix("z")), (Live(6), NoLine(6)), (Renew(1), NoDay(1)), (Live(1), Undone(6)),
                                (Fix("f"), Undone(6)), (Night(1, 2), Undone(6))):
                self.refuses(error, call, went, deed)
            self.refuses(TooMany("lines", 6), call, History(Lot(), [Cut()] * 6), Cut())
            long = History(Lot(), [Cut(), Offer(1)] + [Live(1), Deed.read("down 1")] * 499)
            self.refuses(TooMany("deeds", 1000), call, long, Live(1))

    def test_errors_at_a_view(self):
        went = History.read(self.WENT)
        for book in (Book(), Book.for_testers()):
            for value in any_values():
                if not isinstance(value, View):
                    self.refuses(BadBook("view"), book.refusal_at, value, None, 5)
                if not isinstance(value, Deed):
                    self.refuses(BadDeed(None), book.refusal_at, went.ground, value, 5)
                if value is not None and type(value) is not Needs:
                    self.refuses(BadNeeds("needs"), book.refusal_at, went.ground, Live(6), value)
            for deed, error in ((Merge(6, "z"), NoFix("z")), (Probe(1, 3), NoLine(3)), (Renew(1), NoDay(1))):
                self.refuses(error, book.refusal_at, went.ground, deed)

    def test_the_first_clause_and_the_first_case(self):
        book = Book.read("live elder: other met or other unup; live once: main has; rise elder: other has; rise once: own has")
        went = History.read("f g : fix f, cut, cut, offer 1, offer 2, live 1")
        found = book.refusal(went, Live(2))
        self.assertEqual(found, Refusal(Clause.read("live elder: other met or other unup"), Case(2, None, 1, None)))
        self.assertIs(bool(found), True)
        down = went + Deed.read("down 1")
        self.assertEqual(book.refusal(down, Live(2)), Refusal(Clause.read("live once: main has"), Case(2, "g", None, None)))
        self.assertEqual(book.refusal_at(down.ground, Rise(1, 2)),
                         Refusal(Clause.read("rise elder: other has"), Case(2, "g", 1, None)))
        self.assertIsNone(book.refusal(down, Deed.read("offer 1")))
        self.assertEqual([book(went, Live(2)), book(down, Offer(1)), Book()(went, Live(2))], [False, True, True])
        self.assertEqual(book.refusal_at(view=down.ground, deed=Live(2), needs=None), book.refusal(history=down, deed=Live(2)))

    def test_at_a_view_also_what_cannot_be_done(self):
        went = History.read(self.WENT)
        self.assertIsNone(Book().refusal_at(went.ground, Live(1)))
        self.assertEqual(Book.for_testers().refusal_at(went.ground, Rise(1, 2)),
                         Refusal(Clause.read("rise once: never"), Case(1, None, None, None)))

    def test_needs_of_the_history(self):
        needs = Needs({"f": ["g"]})
        book = Book.for_needs()
        for told, expected in ((None, None), (needs, 3)):
            went = History.read("f g : fix f, cut, cut, offer 1, offer 2", told)
            self.assertEqual(book.lets(went), expected)
        self.assertFalse(book(History.read("f g : fix f, cut", needs), Offer(1)))

    def test_lets(self):
        gate = Book.for_testers()
        for text, expected in (
            (self.WENT, None), (self.WENT + ", live 2", 6), (self.WENT + ", probe 2 1, live 2", None), ("f : -", None),
            ("f : cut, offer 1, rise 1, cut, offer 2, rise 2", 2),
            ("f : cut, cut, offer 1, offer 2, try 1 2, live 1, live 2", None),
        ):
            self.assertEqual(gate.lets(History.read(text)), expected)

    def test_lets_is_refusal_at_each_place(self):
        told = {None: 0}
        for rng in randoms("lets", 60):
            went, book = random_history(rng, needs=Needs({"f": ["g"]})), random_book(rng, 2)
            refused = [book.refusal(went.ahead(n), went[n]) for n in range(len(went))]
            first = next((n for n, found in enumerate(refused) if found is not None), None)
            self.assertEqual(book.lets(went), first)
            told[first] = told.get(first, 0) + 1
            for n, found in enumerate(refused):
                clauses = [clause for clause in book[went[n].KIND]
                           if not clause(went.ahead(n).ground, went[n], went.needs)]
                self.assertEqual(None if found is None else found.clause, clauses[0] if clauses else None)
        self.assertGreater(told[None], 3)
        self.assertGreater(len(told), 5)


class FactsTest(unittest.TestCase):
    NEEDS = Needs({"f": ["g"], "h": ["f"]})

    def test_a_book_that_lets_a_history_lets_it_cut_down(self):
        let = 0
        for rng in randoms("facts", 150):
            book = random_book(rng, rng.randint(1, 3))
            went = History(Lot("f", "g", "h"), (), self.NEEDS)
            for _ in range(80):
                deed = random_deed(rng, "fgh", 3, 3)
                if went.ground.can(deed) and deed.KIND not in ("end",) and book(went, deed):
                    went = went + deed
            lot = Lot.of(rng.sample("fgh", rng.randint(0, 3)))
            lines = sorted(rng.sample(range(1, went.ground.line_count + 1), rng.randint(0, went.ground.line_count)))
            days = [day for day in range(1, went.ground.day_count + 1)
                    if went.ground.line_of(day) in lines and rng.random() < 0.5]
            self.assertIsNone(book.lets(went))
            self.assertIsNone(book.lets(went.only(lot, lines, days)), (str(book), str(went), str(lot), lines, days))
            let += len(went)
        self.assertGreater(let, 1500)

    def test_a_refusal_stays_in_the_few_things_of_its_case(self):
        seen = {}
        for rng in randoms("cases", 80):
            went = random_history(rng, many=20, needs=self.NEEDS)
            for _ in range(60):
                deed = random_deed(rng, "fgh", 3, 4)
                if not went.ground.can(deed):
                    continue
                book = Book(random_clause(rng, deed.KIND), random_clause(rng, deed.KIND))
                found = book.refusal(went, deed)
                if found is None:
                    continue
                case = found.case
                is_fix = isinstance(case.other, str)
                fixes = [fix for fix in (case.fix, case.other if is_fix else None) if fix is not None]
                fixes += [] if deed.KIND not in ("fix", "unfix", "carry", "drop") else deed.named_fixes()
                lines = {line for line in (case.line, None if is_fix else case.other) if line}
                days = [] if case.day is None else [case.day]
                few = sorted(lines)
                whole = Deed.read(str(deed).split(" to ")[0])
                small = went.only(Lot.of(fixes), few, days)
                left = whole.cut_to(Lot.of(fixes), tuple(few), tuple(days))
                again = book.refusal(small, left)
                self.assertIsNotNone(again, (str(book), str(went), str(deed), str(small)))
                self.assertEqual(again.clause, found.clause)
                seen[deed.KIND, found.clause.scope] = True
        self.assertGreater(len(seen), 40)


class LiteralsTest(unittest.TestCase):
    def test_a_clause_with_one_literal_more_is_weaker(self):
        for rng in randoms("weaker", 40):
            went = random_history(rng)
            clause = random_clause(rng)
            if len(clause) < 4:
                wider = clause | Literal("own", "open")
                if Book(clause).lets(went) is None:
                    self.assertIsNone(Book(wider).lets(went))


if __name__ == "__main__":
    unittest.main()

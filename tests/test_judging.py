"""Judging, and looking at what is told."""

import unittest
from unittest import mock

from editionlines import look_judging, tables
from editionlines.books import Book
from editionlines.clauses import Clause
from editionlines.compared import Follows
from editionlines.errors import BadBook, BadWish, TooMany
from editionlines.gates import Gate
from editionlines.histories import History
from editionlines.judging import Broken, Holds, Judge, judged, verdicts
from editionlines.kinds import FEATURES, Kind
from editionlines.look_judging import shows_judged
from editionlines.lots import Lot
from editionlines.needs import Needs
from editionlines.papers import Denial, Paper
from editionlines.standings import Standing
from editionlines.tables import depths, features_of, let_deeds, lot_of, needs_of, reached, shortest, walked
from editionlines.wishes import Fact, Wish
from test_tables import WALKERS
from tools import EditionTest, any_values, random_book, random_fact, random_history, random_wish, randoms, same

NAMES = ("users", "testers", "needs", "clerks")
SMALL = [Kind(1, 1), Kind(0, 2), Kind(2, 1), Kind(1, 1, (1,)), Kind(2, 0), Kind(0, 0), Kind(0, 1, (1, 1))]
IDLE = Wish(Kind(0, 1), Fact("A", "ended"), Fact("A", "open"))


def book_of(name):
    return getattr(Book, "for_" + name)()


def wish_of(name):
    return getattr(Wish, "for_" + name)()


def random_cases(name, many):
    """Pairs of a book and a wish of a small kind."""
    for rng in randoms(name, many):
        yield rng, random_book(rng, 5, WALKERS), random_wish(rng, rng.choice(SMALL), 3)


class JudgedTest(EditionTest):
    def test_papers(self):
        held, broken = judged(Book(), IDLE), judged(Book(), Wish.for_needs())
        self.assertIsInstance(held, Holds)
        self.assertIsInstance(held, Paper)
        self.assertIsInstance(broken, Denial)
        self.assertIs(bool(held), True)
        self.assertIs(bool(broken), False)
        self.assertEqual(Holds(table=(1,)).table, (1,))
        self.assertEqual((Broken(history=1, things=2).history, Broken(1, 2).things), (1, 2))
        self.assertEqual(Holds(held.table), held)
        self.assertNotEqual(Holds(held.table[:2]), held)
        self.assertNotEqual(Holds(()), Broken((), ()))
        things = {"A": 1}
        paper = Broken(None, things)
        things["A"] = 2
        self.assertEqual(paper.things, {"A": 1})

    def test_errors(self):
        for value in any_values():
            if type(value) is not Book:
                self.refuses(BadBook("book"), judged, value, value)
                self.refuses(BadBook("book"), shows_judged, value, value, value)
                self.refuses(BadBook("book"), verdicts, value, value)
                self.refuses(BadBook("book"), Judge(), value)
                self.refuses(BadBook("book"), Judge(IDLE), value)
            if type(value) is not Wish:
                self.refuses(BadWish("wish"), judged, Book(), value)
                self.refuses(BadWish("wish"), shows_judged, Book(), value, value)
                self.refuses(BadWish(0), verdicts, Book(), value, None)
                self.refuses(BadWish(1), verdicts, Book(), IDLE, value)
                self.refuses(BadWish(0), Judge, value)
                self.refuses(BadWish(2), Judge, IDLE, IDLE, value, 7)
            if type(value) is not Judge:
                self.refuses(BadWish("other"), lambda: Judge(IDLE) | value)

    def test_random_ones(self):
        seen = {True: 0, False: 0}
        for rng, book, wish in random_cases("judged", 80):
            found = judged(book, wish)
            length = shortest(book, wish)
            seen[bool(found)] += 1
            self.assertIs(bool(found), length is None)
            self.assertIs(shows_judged(book, wish, found), True)
            if found:
                self.look_at_table(book, wish, found.table)
            else:
                self.assertEqual(len(found.history), length)
                self.assertIsNone(book.lets(found.history))
                self.assertEqual(found.history.lot, lot_of(wish.kind))
                wanted = [needs_of(start) for start in Standing.starts(wish.kind)]
                self.assertIn(found.history.needs, wanted)
                self.assertIn(found.things, list(wish.breaks(found.history.ground, found.history.needs)))
        self.assertGreater(min(seen.values()), 15)

    def look_at_table(self, book, wish, table):
        self.assertIsInstance(table, tuple)
        keys = {standing.key for standing in table}
        self.assertEqual(len(keys), len(table))
        for standing in table:
            self.assertEqual((standing.kind, standing.features), (wish.kind, features_of(book, wish)))
            self.assertTrue(wish(standing, needs_of(standing)))
            self.assertTrue(all(later.key in keys for _, later in let_deeds(book, standing)))
        self.assertTrue(all(start.key in keys for start in Standing.starts(wish.kind, features_of(book, wish))))

    def test_equal_arguments(self):
        for rng, book, wish in random_cases("equal", 10):
            self.assertEqual(judged(book, wish), judged(Book.read(str(book)), Wish.read(str(wish))))
            self.assertEqual(judged(book=book, wish=wish), judged(book, wish))

    def test_named_ones(self):
        for name in NAMES:
            self.assertTrue(judged(book_of(name), wish_of(name)), name)
            self.assertTrue(shows_judged(book_of(name), wish_of(name), judged(book_of(name), wish_of(name))))
            found = judged(Book(), wish_of(name))
            self.assertFalse(found, name)
            self.assertTrue(shows_judged(Book(), wish_of(name), found))
        broken = judged(Book(), Wish.for_all())
        self.assertEqual((len(broken.history), sorted(broken.things)), (8, ["A", "B", "D", "F"]))

    def test_each_clause_counts(self):
        """Of the users' book one of two clauses is enough: both ask what two lines that rise together bring up."""
        spare = ("rise elder: other ungives or own unomits", "rise newer: other unomits or own ungives")
        for name in NAMES:
            for clause in book_of(name):
                found = judged(book_of(name) - Book(clause), wish_of(name))
                self.assertIs(bool(found), str(clause) in spare, str(clause))
                self.assertTrue(shows_judged(book_of(name) - Book(clause), wish_of(name), found))
        both = Book(*[Clause.read(text) for text in spare])
        self.assertFalse(judged(Book.for_users() - both, Wish.for_users()))

    def test_too_many(self):
        never = Wish.for_all().with_fact(Fact("D", "unshut"))
        book = Book.read("end once: own shipped")
        self.refuses(TooMany("standings", 20000), judged, book, never)
        found = judged(book, Wish.for_all())
        self.assertEqual(len(found.history), 8)
        self.assertTrue(shows_judged(book, Wish.for_all(), found))

    def test_what_holds_holds_in_large_histories(self):
        """What a wish that holds says of projects under the book."""
        many = 0
        for rng, book, wish in random_cases("large", 60):
            if judged(book, wish):
                history = random_history(rng, needs=Needs({"f": ["g"], "h": ["f"]}), many=40)
                kept = History(history.lot, (), history.needs)
                for deed in history:
                    if kept.ground.can(deed) and book(kept, deed):
                        kept = kept + deed
                for ground in kept.grounds():
                    self.assertTrue(wish(ground, history.needs), (str(book), str(wish)))
                many += len(kept)
        self.assertGreater(many, 100)


class VerdictsTest(EditionTest):
    def test_one_by_one(self):
        for rng, book, wish in random_cases("verdicts", 10):
            more = random_wish(rng, wish.kind)
            self.assertEqual(list(verdicts(book, wish, more, wish)), [judged(book, wish), judged(book, more), judged(book, wish)])
        self.assertEqual(list(verdicts(Book())), [])
        self.refuses(BadBook("book"), verdicts, None)

    def test_when_it_is_requested(self):
        never = Wish.for_all().with_fact(Fact("D", "unshut"))
        told = verdicts(Book.read("end once: own shipped"), IDLE, never, IDLE)
        self.assertTrue(next(told))
        self.refuses(TooMany("standings", 20000), lambda: next(told))


class JudgeTest(EditionTest):
    def test_as_judged(self):
        wishes = (IDLE, Wish.for_needs(), Wish.for_testers())
        judge = Judge(*wishes)
        self.assertEqual((judge.wishes, len(judge), list(judge)), (wishes, 3, list(wishes)))
        self.assertTrue(IDLE in judge and Wish.for_needs() in judge)
        for value in any_values():
            self.assertFalse(value in judge)
            self.assertNotEqual(judge, value)
        for book in (Book(), Book.for_testers(), Book.for_needs()):
            told = judge(book)
            self.assertIsInstance(told, tuple)
            self.assertEqual(told, tuple(judged(book, wish) for wish in wishes))
        self.assertEqual(judge.asked, 3)
        self.assertEqual(judge(book=Book.for_needs() & Book()), judge(Book.for_needs()))
        self.assertEqual(judge.asked, 3)
        self.assertEqual(Judge()(Book()), ())

    def test_answers_are_kept(self):
        judge = Judge(Wish.for_needs(), IDLE)
        told = judge(Book())
        wanted = [dict(told[0].things), told[0].history, told[1].table]
        told[0].things.clear()
        told[0].history = None
        told[1].table = ()
        again = judge(Book())
        self.assertEqual([again[0].things, again[0].history, again[1].table], wanted)
        again[0].things["A"] = 9
        self.assertEqual(judge(Book())[0].things, wanted[0])
        self.assertEqual(judge.asked, 1)

    def test_not_judged_again(self):
        judge = Judge(Wish.for_users())
        judge(Book.for_users())
        kept = Gate.let_states
        try:
            Gate.let_states = None
            self.assertTrue(judge(Book.for_users())[0])
            with self.assertRaises(TypeError):
                judge(Book())
        finally:
            Gate.let_states = kept
        self.assertEqual(judge.asked, 1)
        self.assertFalse(judge(Book())[0])

    def test_an_error_is_not_counted(self):
        judge = Judge(IDLE, Wish.for_all().with_fact(Fact("D", "unshut")))
        self.refuses(TooMany("standings", 20000), judge, Book.read("end once: own shipped"))
        self.refuses(BadBook("book"), judge, None)
        self.assertEqual(judge.asked, 0)

    def test_both(self):
        one, other = Judge(IDLE, Wish.for_needs()), Judge(Wish.for_users(), IDLE, Wish.for_testers())
        one(Book())
        both = one | other
        self.assertEqual(both.wishes, (IDLE, Wish.for_needs(), Wish.for_users(), Wish.for_testers()))
        self.assertEqual((both.asked, one.asked, len(one)), (0, 1, 2))
        self.assertEqual(both, Judge(*both))
        self.assertEqual(one | Judge(), one)
        self.assertNotEqual(one, Judge(Wish.for_needs(), IDLE))
        self.assertNotEqual(one, Judge(IDLE))


class ShowsHoldsTest(EditionTest):
    def test_bent_tables(self):
        many = 0
        for rng, book, wish in random_cases("bent", 60):
            found = judged(book, wish)
            if not found or len(found.table) > 60:
                continue
            table = list(found.table)
            many += 1
            rng.shuffle(table)
            self.assertTrue(shows_judged(book, wish, Holds(tuple(table))))
            for k in range(len(table)):
                self.assertFalse(shows_judged(book, wish, Holds(tuple(table[:k] + table[k + 1:]))))
            self.assertFalse(shows_judged(book, wish, Holds(tuple(table + table[:1]))))
            self.assertFalse(shows_judged(book, wish, Holds(table)))
            for other in (Standing.starts(Kind(2, 2))[1], None, str(table[0]), table[0].state, (table[0],)):
                self.assertFalse(shows_judged(book, wish, Holds((*table, other))))
                self.assertFalse(shows_judged(book, wish, Holds((other, *table[1:]))))
            self.assertFalse(shows_judged(book, wish, Follows(tuple(table))))
            for features in (FEATURES, ()):
                if features != table[0].features and (features or not wish.kind.days):
                    same_ones = tuple(Standing.starts(wish.kind, features))
                    self.assertFalse(shows_judged(book, wish, Holds((*table, *same_ones))))
        self.assertGreater(many, 10)

    def test_standings_that_are_put_in(self):
        # A line that is ended is not reached under this book, but nothing leads from it that is not there.
        book = Book.read("end once: never")
        wish = Wish(Kind(0, 1), Fact("A", "ended"), Fact("A", "open"))
        held = judged(book, wish)
        more = Standing.read("kind 0 1 ; tells open ; straight ; main - ; line - ended - last none live none stale")
        self.assertEqual(len(held.table), 2)
        self.assertTrue(shows_judged(book, wish, Holds((*held.table, more))))
        # One that breaks the wish, and one from which more leads.
        ended = Wish(Kind(0, 1), Fact("A", "ended"))
        self.assertTrue(shows_judged(book, ended, judged(book, ended)))
        self.assertFalse(shows_judged(book, ended, Holds((*judged(book, ended).table, more))))
        both = Book.read("offer once: never")
        up = Wish(Kind(0, 1), Fact("A", "up"))
        told = judged(both, up)
        later = Standing.read("kind 0 1 ; tells last live ; straight ; main - ; line - open - last some live none stale")
        self.assertTrue(shows_judged(both, up, told))
        self.assertFalse(shows_judged(both, up, Holds((*told.table, later))))

    def test_both_starts_count(self):
        wish = Wish(Kind(2, 0), Fact("main", "has", "F"), Fact("main", "lacks", "F"))
        held = judged(Book(), wish)
        self.assertEqual(len(held.table), 8)
        half = tuple(standing for standing in held.table if not standing.is_turned)
        self.assertFalse(shows_judged(Book(), wish, Holds(half)))

    def test_another_book_or_wish(self):
        held = judged(Book.for_users(), Wish.for_users())
        self.assertFalse(shows_judged(Book(), Wish.for_users(), held))
        self.assertFalse(shows_judged(Book.for_users(), Wish.for_testers(), held))
        self.assertFalse(shows_judged(Book.for_users(), Wish.for_users().with_fact(Fact("A", "open")), held))
        self.assertFalse(shows_judged(Book.for_users(), Wish(Kind(1, 2), Fact("A", "up")), held))
        self.assertTrue(shows_judged(Book.for_users(), Wish.for_users().with_fact(Fact("A", "has", "F")), held))
        self.assertTrue(shows_judged(Book.for_users() & Book.read("cut once: main lacks"), Wish.for_users(), held))

    def test_too_large_tables(self):
        """A right table of more than 20,000 standings does not count."""
        book, wish = Book.read("end once: own shipped"), Wish.read("never 1 2 1 : A runs F , main ended")
        with mock.patch.object(tables, "MOST_STANDINGS", 30000):
            found = judged(book, wish)
        self.assertTrue(20000 < len(found.table) < 30000)
        self.assertIs(shows_judged(book, wish, found), False)
        with mock.patch.object(look_judging, "MOST_STANDINGS", 30000):
            self.assertIs(shows_judged(book, wish, found), True)

    def test_any_values(self):
        for value in any_values():
            for book, wish in ((Book(), IDLE), (Book(), Wish.for_needs()), (Book(), Wish(Kind(0, 0), Fact("main", "ended")))):
                self.assertIs(shows_judged(book, wish, value), False)
                self.assertIs(shows_judged(book, wish, Holds(value)), False)
                self.assertIs(shows_judged(book, wish, Holds((value,))), False)
                self.assertIs(shows_judged(book, wish, Broken(value, {})), False)
                self.assertIs(shows_judged(book, wish, Broken(judged(Book(), Wish.for_needs()).history, value)), False)


class ShowsBrokenTest(EditionTest):
    def test_other_histories(self):
        many = 0
        for rng, book, wish in random_cases("broken", 80):
            history = random_history(rng, needs=Needs({"f": ["g"], "h": ["f"]}), many=30)
            at = book.lets(history)
            let = history if at is None else history.ahead(at)
            for things in list(wish.breaks(let.ground, let.needs))[:4]:
                many += 1
                self.assertTrue(shows_judged(book, wish, Broken(let, things)))
                self.assertTrue(shows_judged(book, wish, Broken(let, dict(reversed(things.items())))))
                for letter in things:
                    less = {key: thing for key, thing in things.items() if key != letter}
                    self.assertFalse(shows_judged(book, wish, Broken(let, less)))
                    for other in (None, 7, "z", True, things[letter] == 1, [things[letter]]):
                        if not same(other, things[letter]):
                            bent = {**things, letter: other}
                            self.assertFalse(shows_judged(book, wish, Broken(let, bent)))
                self.assertFalse(shows_judged(book, wish, Broken(let, {**things, "H": 1})))
                self.assertFalse(shows_judged(book, wish, Broken(let, list(things.items()))))
                if at is not None:
                    self.assertFalse(shows_judged(book, wish, Broken(history, things)))
            if at is not None:
                for things in list(wish.breaks(history.ground, history.needs))[:2]:
                    self.assertFalse(shows_judged(book, wish, Broken(history, things)))
        self.assertGreater(many, 40)

    def test_longer_and_shorter(self):
        book, wish = Book.read("drop once: never"), Wish.for_users()
        found = judged(book, wish)
        things = found.things
        self.assertTrue(shows_judged(book, wish, found))
        for k in range(len(found.history)):
            self.assertFalse(shows_judged(book, wish, Broken(found.history.ahead(k), things)))
        longer = found.history + History.read("f : cut, fix f").deeds
        self.assertTrue(shows_judged(book, wish, Broken(longer, things)))
        self.assertFalse(shows_judged(book, wish, Broken(longer + History.read("f : cut, carry f 1, drop f 1").deeds[2:], things)))
        wide = History.read("a b c : cut, cut, cut, carry b 2, offer 3, offer 2, rise 2 3")
        self.assertTrue(shows_judged(book, wish, Broken(wide, {"F": "b", "A": 2, "B": 3})))
        self.assertFalse(shows_judged(book, wish, Broken(wide, {"F": "a", "A": 2, "B": 3})))
        self.assertFalse(shows_judged(book, wish, Broken(wide, {"F": "b", "A": 1, "B": 3})))
        self.assertFalse(shows_judged(Book.read("rise once: never"), wish, Broken(wide, {"F": "b", "A": 2, "B": 3})))

    def test_needs_count(self):
        wish = Wish.for_needs()
        history = History.read("a b : cut, carry b 1, offer 1, live 1", Needs({"b": ["a"]}))
        self.assertTrue(shows_judged(Book(), wish, Broken(history, {"F": "b", "G": "a", "A": 1})))
        self.assertFalse(shows_judged(Book(), wish, Broken(history, {"F": "a", "G": "b", "A": 1})))
        bare = History(history.lot, history.deeds)
        self.assertFalse(shows_judged(Book(), wish, Broken(bare, {"F": "b", "G": "a", "A": 1})))
        # With needs an offer is not let.
        self.assertFalse(shows_judged(Book.for_needs(), wish, Broken(history, {"F": "b", "G": "a", "A": 1})))


class AcrossTest(EditionTest):
    def test_a_wish_that_holds_holds_under_more(self):
        for rng, book, wish in random_cases("across", 40):
            more = book & random_book(rng, 3, WALKERS)
            if judged(book, wish):
                self.assertTrue(judged(more, wish))
                self.assertTrue(judged(book, wish.with_fact(random_fact(rng, wish.kind))))
            found = judged(more, wish)
            if not found:
                self.assertFalse(judged(book, wish))
                self.assertTrue(shows_judged(book, wish, found))

    def test_cut_down(self):
        """A broken wish of a history is broken at the history cut down to its things, which the book lets, too."""
        many = 0
        for rng, book, wish in random_cases("cut", 120):
            history = random_history(rng, needs=Needs({"f": ["g"], "h": ["f"]}), many=30)
            at = book.lets(history)
            let = history if at is None else history.ahead(at)
            for things in list(wish.breaks(let.ground, let.needs))[:3]:
                lot = Lot(*[things[letter] for letter in "FG" if letter in things])
                lines = [things[letter] for letter in "AB" if letter in things]
                days = [things[letter] for letter in "DE" if letter in things]
                small = let.only(lot, lines, days)
                self.assertIsNone(book.lets(small))
                self.assertFalse(wish(small.ground, small.needs))
                self.assertFalse(judged(book, wish))
                self.assertLessEqual(shortest(book, wish), len(small))
                many += 1
        self.assertGreater(many, 60)

    def test_depths(self):
        for rng, book, wish in random_cases("depths", 20):
            found = judged(book, wish)
            if found:
                self.assertEqual(sum(depths(book, wish)), len(found.table))
                self.assertEqual(len(list(reached(book, wish))), len(found.table))


if __name__ == "__main__":
    unittest.main()

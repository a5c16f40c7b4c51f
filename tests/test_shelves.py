"""Shelves, and looking at what is told."""

import itertools
import unittest
from unittest import mock

from editionlines import tables
from editionlines.books import Book
from editionlines.clauses import Clause
from editionlines.errors import BadBook, BadHistory, BadNumber, BadWish, TooMany
from editionlines.histories import History
from editionlines.judging import Broken, Holds, judged
from editionlines.kinds import Kind
from editionlines.look_judging import shows_judged
from editionlines.look_shelves import shows_choices
from editionlines.lots import Lot
from editionlines.papers import Denial, Paper
from editionlines.shelves import Choices, NoChoice, Shelf, least_choices
from editionlines.wishes import Fact, Wish
from tools import EditionTest, any_values, random_clause, random_history, random_wish, randoms

UNFIX, DROP, OFFER = (Clause.read(text) for text in (
    "unfix once: never", "drop once: never", "offer once: own has or own unshipped"))
SHELF = Shelf(UNFIX, DROP, OFFER)
KEPT = Wish.read("never 1 1 : A omits F , A shipped F")
WANTED = History.read("f : cut, carry f 1, drop f 1")
SMALL = [Kind(1, 1), Kind(0, 2), Kind(2, 0), Kind(1, 0), Kind(0, 1)]
WALKERS = ("cut", "carry", "drop", "offer", "fix", "unfix", "merge", "end", "live")


def clause(text):
    return Clause.read(text)


def numbered(many):
    """So many unlike clauses."""
    words = "has lacks open ended shipped missed gives omits up runs bares fresh tried probed backed met".split()
    found = [Clause.read(f"{kind} {scope}: other {word}") for kind in ("cut", "rise") for scope in ("elder", "newer")
             for word in words]
    return found[:many]


def plain_choices(shelf, wishes, ground, musts):
    """The least choices, told by a look at all sets of clauses."""
    outs = [at for at, one in enumerate(shelf) if any(Book(one).lets(history) is not None for history in musts)]
    free = [at for at in range(len(shelf)) if at not in outs]
    keeping = []
    for many in range(len(free) + 1):
        for choice in itertools.combinations(free, many):
            book = ground & Book(*[list(shelf)[at] for at in choice])
            if all(judged(book, wish) for wish in wishes):
                keeping.append(choice)
    return tuple(one for one in keeping if not any(set(other) < set(one) for other in keeping))


POOL = [clause(text) for text in (
    "unfix once: never", "drop once: never", "offer once: own has or own unshipped", "offer once: never", "carry once: never",
    "fix once: never", "merge once: never", "drop once: own unshipped", "end once: never", "carry once: main has",
    "unfix elder: other lacks", "offer once: main has or own lacks", "cut elder: never", "fix need: main has or own lacks",
    "merge once: main lacks or own has", "cut once: main lacks", "end once: own has", "drop once: main lacks")]
WISHES = [Wish.read(text) for text in (
    "never 1 1 : A omits F , A shipped F", "never 1 1 : A has F , main lacks F", "never 1 0 : main has F", "never 0 1 : A ended",
    "never 1 1 : A ended , A lacks F", "never 0 2 : -", "never 1 1 : A shipped F , main lacks F", "never 1 1 : A lacks F , main has F",
    "never 1 1 : A missed F , A shipped F", "never 2 0 : main has F , main lacks G", "never 0 1 : A ended , A open")]


def random_cases(name, many):
    """Shelves, wishes, grounds and musts."""
    for rng in randoms(name, many):
        wishes = rng.sample(WISHES, rng.randint(1, 3))
        clauses = rng.sample(POOL, rng.randint(0, 6))
        if rng.random() < 0.3:
            wishes.append(random_wish(rng, rng.choice(SMALL), 3))
        ground = Book(rng.choice(POOL)) if rng.random() < 0.4 else Book()
        musts = []
        if rng.random() < 0.5:
            history = random_history(rng, many=5)
            at = ground.lets(history)
            musts = [history if at is None else history.ahead(at)]
        yield rng, Shelf(*clauses), wishes, ground, musts


class ShelfTest(EditionTest):
    def test_made(self):
        self.assertEqual((len(SHELF), list(SHELF), Shelf.MOST), (3, [UNFIX, DROP, OFFER], 8))
        self.assertEqual((len(Shelf()), list(Shelf())), (0, []))
        self.assertEqual(len(Shelf(*numbered(8))), 8)

    def test_errors(self):
        for value in any_values():
            if type(value) is not Clause:
                self.refuses(BadBook("clause"), Shelf, value)
                self.refuses(BadBook("clause"), Shelf, DROP, DROP, value)
            if type(value) is not History:
                self.refuses(BadHistory("history"), SHELF.refusers, value)
                self.refuses(BadHistory("history"), Shelf().refusers, value)
            if not (type(value) is int and 0 <= value <= 2):
                self.refuses(BadNumber(value), SHELF.book_of, value)
                self.refuses(BadNumber(value), SHELF.book_of, 0, 2, value, "no")
            self.refuses(BadNumber(value), Shelf().book_of, value)
        self.refuses(BadBook("twice"), Shelf, DROP, UNFIX, clause("drop once: never"))
        self.refuses(BadBook("twice"), Shelf, *numbered(9), numbered(1)[0])
        self.refuses(TooMany("clauses", 8), Shelf, *numbered(9))
        self.refuses(BadNumber(3), SHELF.book_of, 3)
        self.refuses(BadNumber(-1), SHELF.book_of, -1)

    def test_books(self):
        self.assertEqual(SHELF.book_of(), Book())
        self.assertEqual(SHELF.book_of(2, 0), Book(UNFIX, OFFER))
        self.assertEqual(SHELF.book_of(1, 1), Book(DROP))

    def test_refusers(self):
        rows = [("f : -", ()), ("f : fix f, unfix f", (0,)), ("f : cut, carry f 1, drop f 1", (1,)),
                ("f : cut, carry f 1, offer 1, drop f 1, offer 1, fix f, unfix f", (0, 1, 2)), ("f : cut, offer 1, offer 1", ())]
        for text, places in rows:
            self.assertEqual(SHELF.refusers(History.read(text)), places)
        self.assertEqual(SHELF.refusers(history=WANTED), (1,))
        for rng in randoms("refusers", 30):
            history = random_history(rng)
            shelf = Shelf(*{str(one): one for one in [random_clause(rng) for _ in range(6)]}.values())
            told = tuple(at for at, one in enumerate(shelf) if Book(one).lets(history) is not None)
            self.assertEqual(shelf.refusers(history), told)


class ChoicesTest(EditionTest):
    def test_papers(self):
        self.assertIsInstance(Choices(least=(), holds=(), rows=()), Paper)
        self.assertIsInstance(NoChoice(row=()), Denial)
        self.assertEqual([bool(Choices((), (), ())), bool(NoChoice(()))], [True, False])
        one = Choices(1, 2, 3)
        self.assertEqual((one.least, one.holds, one.rows, NoChoice(4).row), (1, 2, 3, 4))
        self.assertNotEqual(one, Choices(1, 2, 4))

    def test_by_hand(self):
        found = least_choices(SHELF, [KEPT])
        self.assertEqual(found.least, ((1,), (2,)))
        self.assertEqual([[bool(one) for one in told] for told in found.holds], [[True], [True]])
        self.assertEqual([at for at, _ in found.rows], [0])
        found = least_choices(shelf=SHELF, wishes=(KEPT,), ground=None, musts=())
        self.assertEqual(found.least, ((1,), (2,)))
        self.assertEqual(least_choices(SHELF, [KEPT], musts=[WANTED]).least, ((2,),))
        self.assertEqual(least_choices(SHELF, [KEPT], Book(DROP)).least, ((),))
        self.assertEqual(least_choices(SHELF, [KEPT], Book(DROP)).rows, ())
        both = History.read("f : cut, carry f 1, offer 1, drop f 1, offer 1")
        out = least_choices(SHELF, [KEPT], musts=(both,))
        self.assertIsInstance(out, NoChoice)
        self.assertEqual((out.row[0], SHELF.refusers(out.row[1].history)), (0, (1, 2)))
        # Wishes that two clauses keep together: no line loses a fix, and main does not.
        main = Wish.read("never 1 1 : A shipped F , main lacks F")
        none = Shelf(UNFIX, DROP, OFFER, clause("offer once: main has or own lacks"))
        self.assertEqual(least_choices(none, [KEPT, main]).least, ((0, 1, 3), (0, 2, 3)))
        self.assertEqual(least_choices(none, [KEPT, main, KEPT, KEPT]).least, ((0, 1, 3), (0, 2, 3)))

    def test_beside_all_sets(self):
        seen = {}
        for _, shelf, wishes, ground, musts in random_cases("sets", 150):
            try:
                with mock.patch.object(tables, "MOST_STANDINGS", 1000):
                    expected = plain_choices(shelf, wishes, ground, musts)
                    found = least_choices(shelf, wishes, ground, musts)
            except TooMany:
                continue
            self.assertIs(shows_choices(shelf, wishes, found, ground, musts), True)
            self.assertIs(bool(found), bool(expected))
            if found:
                self.assertEqual(found.least, tuple(sorted(expected, key=lambda one: (len(one), one))))
                for choice, holds in zip(found.least, found.holds):
                    book = ground & shelf.book_of(*choice)
                    self.assertEqual(len(holds), len(wishes))
                    self.assertTrue(all(shows_judged(book, wish, one) and one for wish, one in zip(wishes, holds)))
                for at, broken in found.rows:
                    self.assertTrue(shows_judged(ground, wishes[at], broken) and not broken)
            seen[len(found.least) if found else 0, bool(found) and found.least == ((),)] = True
        self.assertIn((0, False), seen)
        self.assertIn((1, True), seen)
        self.assertIn((1, False), seen)
        self.assertGreater(len(seen), 3)

    def test_errors_in_their_order(self):
        for call in (least_choices, lambda shelf, wishes, ground=None, musts=(): shows_choices(shelf, wishes, 7, ground, musts)):
            for value in any_values():
                if type(value) is not Shelf:
                    self.refuses(BadBook("shelf"), call, value, value, value, value)
                self.refuses(BadWish("wishes"), call, SHELF, value, 7, 7)
                self.refuses(BadWish("wishes"), call, SHELF, [KEPT, 1], 7, 7)
                if type(value) is not Wish:
                    self.refuses(BadWish("wishes"), call, SHELF, (KEPT, value), 7, 7)
                if value is not None and type(value) is not Book:
                    self.refuses(BadBook("ground"), call, SHELF, [KEPT], value, 7)
                if not (isinstance(value, (list, tuple)) and not value):
                    self.refuses(BadHistory("musts"), call, SHELF, [KEPT], None, value)
                if type(value) is not History:
                    self.refuses(BadHistory("musts"), call, SHELF, [KEPT], Book(DROP), [WANTED, value])
            self.refuses(BadWish("wishes"), call, SHELF, [], None, 7)
            self.refuses(BadWish("wishes"), call, SHELF, [KEPT] * 5, None, 7)
            self.refuses(BadWish("wishes"), call, SHELF, KEPT, None, 7)
            self.refuses(BadHistory("musts"), call, SHELF, [KEPT], None, [WANTED] * 9)
            self.refuses(BadHistory(1), call, SHELF, [KEPT], Book(DROP), [History(Lot()), WANTED, WANTED])
            many = Book(*numbered(30)[8:])
            self.refuses(BadHistory(0), call, Shelf(*numbered(8)), [KEPT], many & Book(DROP), [WANTED])
            self.refuses(TooMany("clauses", 24), call, Shelf(*numbered(8)), [KEPT], many)
        self.assertTrue(least_choices(SHELF, [KEPT] * 4, None, [WANTED] * 8))

    def test_at_the_bound(self):
        wish = Wish(Kind(0, 0), Fact("main", "ended"))
        some = numbered(24)
        self.assertEqual(least_choices(Shelf(*some[:8]), [wish], Book(*some[8:])).least, ((),))
        self.assertEqual(least_choices(Shelf(*some[:8]), [wish], Book(*some)).least, ((),))
        self.refuses(TooMany("clauses", 24), least_choices, Shelf(*some[:7], numbered(25)[24]), [wish], Book(*some))
        # Also where the clauses that would be too many are out.
        must = History.read("f : cut, cut")
        self.refuses(TooMany("clauses", 24), least_choices, Shelf(clause("cut elder: never")), [wish],
                     Book(*numbered(40)[16:]), [must])

    def test_too_many_standings(self):
        wish = Wish.for_all().with_fact(Fact("D", "unshut"))
        shelf = Shelf(clause("end once: own shipped"))
        self.refuses(TooMany("standings", 20000), least_choices, shelf, [wish])
        self.assertIs(shows_choices(shelf, [wish], None), False)


class ShowsTest(EditionTest):
    def test_bent_choices(self):
        main = Wish.read("never 1 1 : A shipped F , main lacks F")
        shelf = Shelf(UNFIX, DROP, OFFER, clause("offer once: main has or own lacks"), clause("live once: never"))
        wishes = [KEPT, main]
        found = least_choices(shelf, wishes)
        least, holds, rows = found.least, found.holds, found.rows
        self.assertEqual(least, ((0, 1, 3), (0, 2, 3)))

        def look(*parts):
            return shows_choices(shelf, wishes, Choices(*parts))

        self.assertIs(look(least, holds, rows), True)
        self.assertTrue(look(least, holds, rows[::-1]))
        self.assertTrue(look(least, holds, rows + rows))
        more = Broken(rows[0][1].history + History.read("f : cut").deeds, rows[0][1].things)
        self.assertTrue(look(least, holds, (*rows, (rows[0][0], more))))
        # Left out, another order, wider.
        self.assertFalse(look(least[:1], holds[:1], rows))
        self.assertFalse(look(least[1:], holds[1:], rows))
        self.assertFalse(look(least[::-1], holds[::-1], rows))
        self.assertFalse(look((), (), rows))
        self.assertFalse(look((least[0], least[0]), (holds[0], holds[0]), rows))
        wide = tuple(judged(shelf.book_of(0, 1, 2, 3), wish) for wish in wishes)
        self.assertFalse(look((*least, (0, 1, 2, 3)), (*holds, wide), rows))
        spare = tuple(judged(shelf.book_of(0, 1, 3, 4), wish) for wish in wishes)
        self.assertFalse(look(((0, 2, 3), (0, 1, 3, 4)), (holds[1], spare), rows))
        for bent in ((1, 0, 3), [0, 1, 3], (0, 1, 1, 3), (0, True, 3), (0, 1, 9), (-5, 1, 3), (0, 1), None, 7):
            self.assertFalse(look((bent, least[1]), holds, rows), bent)
        self.assertFalse(look(list(least), holds, rows))
        # Holds exchanged, left out, of other kinds.
        self.assertFalse(look(least, holds[:1], rows))
        self.assertFalse(look(least, (*holds, holds[0]), rows))
        self.assertIs(look(least, (holds[0], holds[1][::-1]), rows), all(
            shows_judged(shelf.book_of(*least[1]), wish, one) for wish, one in zip(wishes, holds[1][::-1])))
        self.assertFalse(look(least, (holds[0], holds[1][:1]), rows))
        self.assertFalse(look(least, (holds[0], list(holds[1])), rows))
        self.assertFalse(look(least, list(holds), rows))
        self.assertFalse(look(least, (holds[0], (Holds(holds[1][0].table[1:]), holds[1][1])), rows))
        self.assertFalse(look(least, (holds[0], (rows[0][1], holds[1][1])), rows))
        # Rows left out, of other wishes, of other kinds.
        for k in range(len(rows)):
            left = rows[:k] + rows[k + 1:]
            free = [choice for many in range(6) for choice in itertools.combinations(range(5), many)]
            is_enough = all(any(set(one) <= set(choice) for one in least) or
                            any(not set(shelf.refusers(row[1].history)) & set(choice) for row in left) for choice in free)
            self.assertIs(look(least, holds, left), is_enough)
        self.assertFalse(look(least, holds, ()))
        self.assertFalse(look(least, holds, list(rows)))
        for bent in ((1 - rows[0][0], rows[0][1]), (2, rows[0][1]), (-1, rows[0][1]), (bool(rows[0][0]), rows[0][1]),
                     [rows[0][0], rows[0][1]], rows[0][:1], (*rows[0], 1), (rows[0][0], holds[0][0]), (rows[0][0], None), None):
            self.assertFalse(look(least, holds, (*rows, bent)), bent)

    def test_with_grounds_and_musts(self):
        found = least_choices(SHELF, [KEPT], musts=[WANTED])
        self.assertTrue(shows_choices(SHELF, [KEPT], found, musts=[WANTED]))
        # Without the must drop is not out.
        self.assertFalse(shows_choices(SHELF, [KEPT], found))
        both = least_choices(SHELF, [KEPT])
        self.assertTrue(shows_choices(SHELF, [KEPT], both, None, ()))
        self.assertFalse(shows_choices(SHELF, [KEPT], both, None, [WANTED]))
        # A row that the ground does not let.
        ground = Book.read("merge once: never; offer elder: never")
        self.assertTrue(shows_choices(SHELF, [KEPT], least_choices(SHELF, [KEPT], ground), ground))
        strict = Book(Clause(both.rows[0][1].history[0].KIND, "once"))
        told = least_choices(SHELF, [KEPT], strict)
        self.assertTrue(shows_choices(SHELF, [KEPT], told, strict))
        self.assertFalse(shows_choices(SHELF, [KEPT], Choices(told.least, told.holds, both.rows), strict))

    def test_no_choice(self):
        must = History.read("f : cut, carry f 1, offer 1, drop f 1, offer 1")
        found = least_choices(SHELF, [KEPT], musts=[must])
        self.assertTrue(shows_choices(SHELF, [KEPT], found, musts=[must]))
        # Where there is a choice.
        self.assertFalse(shows_choices(SHELF, [KEPT], found))
        self.assertFalse(shows_choices(SHELF, [KEPT], found, Book(OFFER)))
        at, broken = found.row
        for bent in ((1, broken), (True, broken), (0, broken, 1), [0, broken], (0, Holds(())), (0, None), None, broken,
                     (0, Broken(broken.history.ahead(3), broken.things))):
            self.assertFalse(shows_choices(SHELF, [KEPT], NoChoice(bent), musts=[must]))
        unfixed = History.read("f : fix f, cut, offer 1, unfix f, drop f 1, offer 1")
        self.assertFalse(shows_choices(SHELF, [KEPT], NoChoice((0, Broken(unfixed, {"F": "f", "A": 1}))), musts=[must]))
        self.assertTrue(shows_choices(Shelf(), [KEPT], NoChoice((0, Broken(unfixed, {"F": "f", "A": 1})))))
        self.assertEqual(at, 0)

    def test_any_values(self):
        for value in any_values():
            self.assertIs(shows_choices(SHELF, [KEPT], value), False)
            self.assertIs(shows_choices(SHELF, [KEPT], NoChoice(value)), False)
            self.assertIs(shows_choices(SHELF, [KEPT], NoChoice((0, value))), False)
            found = least_choices(SHELF, [KEPT])
            self.assertIs(shows_choices(SHELF, [KEPT], Choices(value, found.holds, found.rows)), False)
            self.assertIs(shows_choices(SHELF, [KEPT], Choices(found.least, value, found.rows)), False)
            self.assertIs(shows_choices(SHELF, [KEPT], Choices(found.least, found.holds, value)), False)
            is_right = type(value) is tuple and value == (1,)
            self.assertIs(shows_choices(SHELF, [KEPT], Choices((value, (2,)), found.holds, found.rows)), is_right)
            self.assertIs(shows_choices(SHELF, [KEPT], Choices(found.least, (value, found.holds[1]), found.rows)), False)
            self.assertIs(shows_choices(SHELF, [KEPT], Choices(found.least, ((value,), found.holds[1]), found.rows)), False)


if __name__ == "__main__":
    unittest.main()

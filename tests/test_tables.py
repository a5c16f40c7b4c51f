"""Tables: all standings to which histories lead that a book lets."""

import unittest

from editionlines.books import Book
from editionlines.deeds import Deed
from editionlines.errors import BadBook, BadLiteral, BadStanding, BadWish, EditionError, TooMany
from editionlines.gates import Gate
from editionlines.histories import History
from editionlines.kinds import FEATURES, Kind, closed
from editionlines.lots import Lot
from editionlines.needs import Needs
from editionlines.standings import Standing
from editionlines.tables import depths, features_of, let_deeds, lot_of, needs_of, reached, shortest, walked
from editionlines.wishes import Fact, Wish
from test_kinds import KINDS
from test_standings import features_for, random_walk
from tools import EditionTest, any_values, random_book, random_kind, random_wish, randoms

WALKERS = ("cut", "carry", "drop", "offer", "live", "rise", "fix", "merge", "down", "night", "day", "end", "try", "meet")


def plain_walk(book, kind, features, most):
    """The rows of walked up to a number of deeds, told by a plain search with steps and the book."""
    rows = [(standing, ()) for standing in Standing.starts(kind, features)]
    seen = [standing for standing, _ in rows]
    for row in rows:
        standing, deeds = row
        if len(deeds) == most:
            break
        needs = Needs({standing.names[0]: [standing.names[1]]}) if kind.fixes == 2 else Needs()
        for deed, later in standing.steps():
            if book.refusal_at(standing, deed, needs) is None and later not in seen:
                seen.append(later)
                rows.append((later, (*deeds, deed)))
    return rows


def true_standings(book, kind, most):
    """The texts of the standings of all histories of at most so many deeds that a book lets, of all things of a kind."""
    found = {}
    orders = [("f", "g")[:kind.fixes]] if kind.fixes < 2 else [("f", "g"), ("g", "f")]
    for order in orders:
        needs = Needs({order[0]: [order[1]]}) if kind.fixes == 2 else None
        level = [History(Lot(*order), (), needs)]
        for length in range(most + 1):
            later = {}
            for history in level:
                ground = history.ground
                lines, days = tuple(range(1, ground.line_count + 1)), tuple(range(1, ground.day_count + 1))
                if ground.line_count <= kind.lines and [ground.line_of(day) for day in days] == list(kind.days[:len(days)]):
                    told = Standing.of(ground, order, lines, days)
                    found.setdefault(str(told).split(" ; ", 1)[1], length)
                    later[str(told)] = history
            level = [longer for history in later.values() for longer in longer_by_one(history, book, kind)]
    return found


def longer_by_one(history, book, kind):
    standing = Standing.of(history.ground, history.lot.fixes, tuple(range(1, history.ground.line_count + 1)),
                           tuple(range(1, history.ground.day_count + 1)))
    for deed in standing.askable():
        if deed.KIND == "cut" and standing.line_count == kind.lines:
            continue
        if book(history, deed):
            yield history + deed


class PartsTest(EditionTest):
    def test_needs_and_lots(self):
        for fixes, lines, days in KINDS:
            kind = Kind(fixes, lines, days)
            self.assertEqual(lot_of(kind), Lot(*"fg"[:fixes]))
            for standing in Standing.starts(kind):
                expected = Needs() if fixes < 2 else Needs({"g": ["f"]} if standing.is_turned else {"f": ["g"]})
                self.assertEqual(needs_of(standing), expected)
        self.assertEqual(needs_of(standing=Standing.starts(Kind(2, 0))[0]), Needs({"f": ["g"]}))
        self.assertEqual(lot_of(kind=Kind(1, 0)), Lot("f"))

    def test_features(self):
        for rng in randoms("features", 60):
            book, wish = random_book(rng), random_wish(rng, random_kind(rng), 4)
            self.assertEqual(features_of(book, wish), closed((*book.features, *wish.features)))
        self.assertEqual(features_of(Book.for_testers(), Wish.for_testers()), ("last", "live", "tries"))
        self.assertEqual(features_of(book=Book(), wish=Wish(Kind(0, 1, (1,)))), ("last", "live"))

    def test_errors(self):
        for value in any_values():
            for call in (features_of, reached, depths, shortest):
                if type(value) is not Book:
                    self.refuses(BadBook("book"), call, value, value)
                if type(value) is not Wish:
                    self.refuses(BadWish("wish"), call, Book(), value)
            if type(value) is not Book:
                self.refuses(BadBook("book"), walked, value, None, None)
                self.refuses(BadBook("book"), let_deeds, value, Standing.starts(Kind(0, 0))[0])
            if type(value) is not Kind:
                self.refuses(BadStanding("kind"), walked, Book(), value, None)
            if value != ():
                self.refuses(BadStanding("features"), walked, Book(), Kind(0, 0), value)
        self.refuses(BadStanding("features"), walked, Book(), Kind(0, 1, (1,)), ("open",))
        self.refuses(BadLiteral("features"), lambda: list(walked(Book.read("end once: own up"), Kind(0, 1), ("open",))))


class LetDeedsTest(EditionTest):
    def test_beside_the_book(self):
        many = 0
        for rng in randoms("let", 150):
            kind = random_kind(rng)
            standing = random_walk(rng, kind, FEATURES)
            book = random_book(rng, 12, WALKERS)
            needs = needs_of(standing)
            expected = [(deed, later) for deed, later in standing.steps() if book.refusal_at(standing, deed, needs) is None]
            self.assertEqual(list(let_deeds(book, standing)), expected)
            many += len(list(standing.steps())) > len(expected)
        self.assertGreater(many, 20)

    def test_gates(self):
        """What many standings are asked by is the same as what a book tells of each."""
        held = {True: 0, False: 0}
        for rng in randoms("gates", 300):
            kind = random_kind(rng)
            book = random_book(rng, 12)
            features = rng.choice([words for words in features_for(kind) if set(book.features) <= set(words)])
            gate = Gate(book, kind, features)
            for _ in range(4):
                standing = random_walk(rng, kind, features)
                needs = needs_of(standing)
                expected = [(deed, later.state) for deed, later in let_deeds(book, standing)]
                self.assertEqual(gate.let_states(standing), expected)
                for word in Deed.KINDS:
                    told = gate.told_of(standing, word)
                    self.assertEqual([deed for deed, _ in told], list(standing.askable(word)))
                    for deed, is_let in told:
                        self.assertIs(is_let, book.refusal_at(standing, deed, needs) is None, (str(book), str(deed)))
                        held[is_let] += 1
        self.assertGreater(min(held.values()), 150)


    def test_main_beside_lines(self):
        """Beside main as own none of the words of two lines is true, whatever was tried."""
        both = Standing.read("kind 0 2 ; tells last live tries ; straight ; main - ; line - open - last some live some fresh ; "
                             "line - open - last some live some fresh ; two yes yes yes yes")
        for word in ("tried", "probed", "backed", "met"):
            for text, is_let in ((f"cut elder: other {word}", False), (f"cut elder: other un{word}", True)):
                gate = Gate(Book.read(text), both.kind, both.features)
                self.assertEqual(gate.told_of(both, "cut"), [(Deed.read("cut"), is_let)])


class WalkedTest(EditionTest):
    def test_by_hand(self):
        rows = [(str(standing).split(" ; ", 3)[3], [str(deed) for deed in deeds]) for standing, deeds in
                walked(Book(), Kind(0, 1), ("open", "last"))]
        self.assertEqual(rows, [
            ("main -", []),
            ("main - ; line - open - last none live none stale", ["cut"]),
            ("main - ; line - ended - last none live none stale", ["cut", "end 1"]),
            ("main - ; line - open - last some live none stale", ["cut", "offer 1"]),
            ("main - ; line - ended - last some live none stale", ["cut", "offer 1", "end 1"]),
        ])
        self.assertEqual([len(deeds) for _, deeds in walked(book=Book(), kind=Kind(2, 0), features=())], [0, 0, 1, 1, 1, 1, 2, 2])
        self.assertEqual([standing.is_turned for standing, _ in walked(Book(), Kind(2, 0), ())],
                         [False, True, False, False, True, True, False, True])
        self.assertEqual(len(list(walked(Book.read("cut once: never"), Kind(1, 2, (1,)), FEATURES))), 2)

    def test_beside_a_plain_search(self):
        many = 0
        for rng in randoms("walks", 40):
            kind = random_kind(rng)
            book = random_book(rng, 4, WALKERS)
            features = closed((*book.features, *rng.choice(features_for(kind))))
            expected = plain_walk(book, kind, features, 4)
            found = []
            for standing, deeds in walked(book, kind, features):
                if len(deeds) > 4:
                    break
                found.append((standing, deeds))
            self.assertEqual(found, expected)
            many += len(found)
        self.assertGreater(many, 1000)

    def test_beside_true_histories(self):
        many = 0
        for rng in randoms("true", 25):
            kind = rng.choice([Kind(1, 1), Kind(0, 2), Kind(2, 1), Kind(1, 1, (1,)), Kind(0, 2, (2,)), Kind(1, 2)])
            book = random_book(rng, 4, WALKERS)
            expected = true_standings(book, kind, 5)
            found = {}
            for standing, deeds in walked(book, kind, FEATURES):
                if len(deeds) > 5:
                    break
                found[str(standing).split(" ; ", 1)[1]] = len(deeds)
                history = History(lot_of(kind), deeds, needs_of(standing))
                self.assertIsNone(book.lets(history))
            self.assertEqual(found, expected)
            many += len(found)
        self.assertGreater(many, 1000)

    def test_closed(self):
        for rng in randoms("closed", 20):
            kind = rng.choice([Kind(1, 1), Kind(0, 2), Kind(2, 1), Kind(1, 1, (1,)), Kind(0, 1, (1, 1))])
            book = random_book(rng, 6, WALKERS)
            features = closed((*book.features, *rng.choice(features_for(kind))))
            table = [standing for standing, _ in walked(book, kind, features)]
            keys = {standing.key for standing in table}
            self.assertEqual(len(keys), len(table))
            self.assertTrue(all(start.key in keys for start in Standing.starts(kind, features)))
            for standing in table:
                self.assertTrue(all(later.key in keys for _, later in let_deeds(book, standing)))

    def test_arguments_as_they_are_then(self):
        rows = walked(Book(), Kind(0, 1), ())
        self.assertEqual(len(list(rows)), 2)


class BoundTest(EditionTest):
    def test_too_many(self):
        found = []
        with self.assertRaises(TooMany) as caught:
            for row in walked(Book(), Kind(1, 2, (1, 2)), FEATURES):
                found.append(row)
        self.assertEqual((caught.exception.what, caught.exception.most), ("standings", 20000))
        self.assertEqual(len(found), 20000)
        self.assertEqual(len({standing.key for standing, _ in found}), 20000)
        lengths = [len(deeds) for _, deeds in found]
        self.assertEqual(lengths, sorted(lengths))

    def test_of_a_wish(self):
        wish = Wish.for_all()
        never = wish.with_fact(Fact("D", "unshut"))
        book = Book.read("end once: own shipped")
        with self.assertRaises(TooMany):
            list(reached(book, never))
        with self.assertRaises(TooMany):
            depths(book, never)
        with self.assertRaises(TooMany):
            shortest(book, never)
        # A broken standing that is met ahead of the bound is told.
        self.assertEqual(shortest(book, wish), 8)
        with self.assertRaises(TooMany):
            depths(book, wish)


class ReachedTest(EditionTest):
    def test_beside_walked(self):
        for rng in randoms("reached", 25):
            kind = rng.choice([Kind(1, 1), Kind(0, 2), Kind(2, 1), Kind(1, 1, (1,)), Kind(2, 0), Kind(0, 0)])
            book, wish = random_book(rng, 4, WALKERS), random_wish(rng, kind)
            rows = list(walked(book, kind, features_of(book, wish)))
            found = list(reached(book, wish))
            self.assertEqual(found, [(len(deeds), standing) for standing, deeds in rows])
            lengths = [length for length, _ in found]
            self.assertEqual(depths(book, wish), tuple(lengths.count(k) for k in range(max(lengths) + 1)))
            broken = [length for length, standing in found if not wish(standing, needs_of(standing))]
            self.assertEqual(shortest(book, wish), broken[0] if broken else None)

    def test_by_hand(self):
        self.assertEqual(depths(Book(), Wish(Kind(0, 0))), (1,))
        self.assertEqual(depths(Book(), Wish(Kind(2, 0))), (2, 4, 2))
        self.assertEqual(shortest(Book(), Wish(Kind(2, 0))), 0)
        self.assertEqual(shortest(Book(), Wish(Kind(0, 2))), 2)
        self.assertIsNone(shortest(Book.read("cut elder: never"), Wish(Kind(0, 2))))
        self.assertEqual(shortest(book=Book(), wish=Wish(Kind(0, 1, (1, 1)))), 5)
        for name, length in (("users", 6), ("testers", 5), ("clerks", 11), ("needs", 4), ("all", 8)):
            self.assertEqual(shortest(Book(), getattr(Wish, "for_" + name)()), length, name)


class FailuresTest(EditionTest):
    def test_no_error_else(self):
        for rng in randoms("no error", 30):
            kind = rng.choice([Kind(2, 1), Kind(1, 1, (1,))])
            book, wish = random_book(rng, 5), random_wish(rng, kind)
            try:
                depths(book, wish)
            except EditionError as error:
                self.assertIsInstance(error, TooMany)


if __name__ == "__main__":
    unittest.main()

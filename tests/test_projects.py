"""Projects: histories that grow under a book."""

import unittest

from editionlines.books import Book
from editionlines.clauses import Clause
from editionlines.cutting import rest_of
from editionlines.deeds import Cut, Day, Deed, Drop, End, Fix, Live, Merge, Night, Offer, Redo, Rise, Shut
from editionlines.errors import BadBook, BadDeed, BadHistory, BadLot, BadNeeds, Barred, EditionError, NoDay, NoFix, NoLine
from editionlines.errors import BadPlace, Nothing, TooMany, Undone
from editionlines.grounds import Ground
from editionlines.histories import History
from editionlines.lots import Lot
from editionlines.needs import Needs
from editionlines.numbers import Number, Release
from editionlines.projects import Project
from editionlines.wishes import Wish
from tools import EditionTest, any_values, random_book, random_deed, random_history, randoms

NEEDS = Needs({"f": ["g"]})


def made(text, book=None, needs=None):
    """The project of the history with this text."""
    history = History.read(text)
    project = Project(history.lot, needs, book)
    project.do_all(*history)
    return project


def picture(project):
    """All that a project is."""
    return (str(project.history_now), str(project.needs), str(project.book), [str(deed) for deed in project.undone],
            project.counts, len(project), project.lot)


def heard(call, *args):
    """What a call raises, as its kind and what it tells; None if it returns."""
    try:
        call(*args)
    except EditionError as error:
        return (type(error), sorted((name, str(value)) for name, value in vars(error).items()))
    return None


class ProjectTest(EditionTest):
    def test_made(self):
        for project in (Project(Lot("f", "g")), Project(lot=Lot("g", "f"), needs=None, book=None),
                        Project(Lot("f", "g"), Needs(), Book())):
            self.assertEqual((project.lot, project.needs, project.book), (Lot("f", "g"), Needs(), Book()))
            self.assertEqual((project.history_now, project.ground_now), (History(Lot("f", "g")), Ground(Lot("f", "g"))))
            self.assertEqual((project.undone, project.counts, len(project), list(project)), ((), {}, 0, []))
        project = Project(Lot("f", "g"), NEEDS, Book.for_needs())
        self.assertEqual((project.needs, project.book, project.history_now.needs), (NEEDS, Book.for_needs(), NEEDS))

    def test_errors_of_the_class(self):
        for value in any_values():
            if type(value) is not Lot:
                self.refuses(BadLot("lot"), Project, value, "no", "no")
            if value is not None and type(value) is not Needs:
                self.refuses(BadNeeds("needs"), Project, Lot(), value, "no")
            if value is not None and type(value) is not Book:
                self.refuses(BadBook("book"), Project, Lot(), None, value)

    def test_returned(self):
        project = Project(Lot("f", "g"))
        told = [project.do(Deed.read(text)) for text in (
            "fix f", "cut", "offer 1", "cut", "live 1", "day 1", "fix g", "merge 2 to f", "merge 2", "offer 2", "live 2",
            "night 1 2", "night 1 2 to 1", "redo 1", "renew 1 2 to 1", "shut 1", "offer 1", "rise 1", "end 1", "down 2")]
        expected = [None] * 20
        expected[2] = Release(Number(1, 0), Lot("f"))
        expected[5], expected[11], expected[12] = (1,), (2, 3), (4,)
        expected[9], expected[16] = Release(Number(2, 0), Lot("f", "g")), Release(Number(1, 1), Lot("f"))
        self.assertEqual(told, expected)
        self.assertEqual(project.counts, {"fix": 2, "cut": 2, "offer": 3, "live": 2, "day": 1, "merge": 2, "night": 2,
                                          "redo": 1, "renew": 1, "shut": 1, "rise": 1, "end": 1, "down": 1})
        counts = project.counts
        counts["fix"] = 100
        self.assertEqual(project.counts["fix"], 2)
        self.assertEqual(project(Day(1)), (5,))
        self.assertEqual(project.do(deed=Day(1)), (6,))

    def test_items(self):
        project = made("f g h : fix f, cut, fix g, unfix f, cut, carry h 2, end 2")
        self.assertEqual([project[0], project[1], project[2]], [Lot("g"), Lot("f"), Lot("g", "h")])
        for value in any_values():
            if not (type(value) is int and 0 <= value <= 2):
                self.refuses(NoLine(value), lambda: project[value])
            self.assertEqual(value in project, isinstance(value, str) and value in ("f", "g"))
        self.refuses(NoLine(3), lambda: project[3])
        self.assertTrue("h" in project and "g" in project)
        self.assertFalse("i" in project)
        project.do(Deed.read("unfix g"))
        self.assertTrue("g" in project)
        self.assertEqual(len(project), 8)
        self.assertEqual([str(deed) for deed in project][-2:], ["end 2", "unfix g"])
        # What main alone has counts, and what no line and main not.
        self.assertEqual(["f" in made("f g : cut, fix f"), "g" in made("f g : cut, fix f")], [True, False])

    def test_beside_a_history(self):
        seen = {}
        for rng in randoms("beside", 40):
            needs = NEEDS if rng.random() < 0.5 else None
            book = random_book(rng, 4)
            project, history = Project(Lot("f", "g", "h"), needs, book), History(Lot("f", "g", "h"), (), needs)
            for _ in range(80):
                deed = random_deed(rng, "fghq" if rng.random() < 0.05 else "fgh", 4, 4)
                trouble = heard(lambda: history + deed)
                refused = None if trouble else book.refusal(history, deed)
                before, undone = picture(project), project.undone
                self.assertIs(project.let(deed), trouble is None and refused is None)
                self.assertEqual(picture(project), before)
                if trouble is not None:
                    self.assertEqual(heard(project.do, deed), trouble)
                elif refused is not None:
                    self.refuses(Barred(refused.clause), project.do, deed)
                else:
                    history = history + deed
                    told = project.do(deed)
                    wanted = history.releases[-1] if deed.KIND == "offer" else None
                    if deed.KIND in ("day", "night"):
                        wanted = history.made(len(history) - 1)
                    self.assertEqual(told, wanted)
                    self.assertEqual(project.undone, ())
                seen[trouble and trouble[0].__name__, refused is None] = True
                if trouble or refused:
                    self.assertEqual((picture(project), project.undone), (before, undone))
                self.assertEqual(project.history_now, history)
                self.assertEqual(project.ground_now, history.ground)
                if rng.random() < 0.1 and len(project) > 0:
                    self.assertEqual(project.undo(), history[-1])
                    history = history.ahead(len(history) - 1)
        for key in ((None, True), (None, False), ("Undone", True), ("NoLine", True), ("NoDay", True), ("NoFix", True)):
            self.assertIn(key, seen)


class ErrorsTest(EditionTest):
    def test_of_do(self):
        project = made("f : cut, offer 1", Book.read("fix once: never; live once: never"))
        for value in any_values():
            if not isinstance(value, Deed):
                self.refuses(BadDeed(None), project.do, value)
                self.refuses(BadDeed(None), project, value)
                self.refuses(BadDeed(None), project.let, value)
                self.refuses(BadDeed(None), project.do_all, Cut(), value)
        self.refuses(NoFix("q"), project.do, Fix("q"))
        self.refuses(NoLine(2), project.do, Live(2))
        self.refuses(NoDay(1), project.do, Redo(1))
        self.refuses(Undone(2), project.do, Day(1))
        self.refuses(Barred(Clause("live", "once")), project.do, Live(1))
        self.refuses(Barred(Clause("fix", "once")), project.do, Fix("f"))
        self.assertEqual(len(project), 2)

    def test_the_first_clause_bars(self):
        project = Project(Lot("f"), None, Book.read("cut once: main ended; cut once: main has; cut once: never"))
        self.refuses(Barred(Clause.read("cut once: main ended")), project.do, Cut())
        project.book = Book.read("cut once: main has; cut once: main open; cut once: never")
        self.refuses(Barred(Clause.read("cut once: main has")), project.do, Cut())
        project.do(Fix("f"))
        self.refuses(Barred(Clause.read("cut once: never")), project.do, Cut())

    def test_too_many(self):
        project = Project(Lot())
        project.do_all(*[Cut()] * 6)
        self.refuses(TooMany("lines", 6), project.do, Cut())
        project.do_all(*[Offer(1)] * 60)
        self.refuses(TooMany("releases", 60), project.do, Offer(1))
        project.do(Live(1))
        project.do_all(*[Day(1)] * 200)
        self.refuses(TooMany("days", 200), project.do, Day(1))
        project.do_all(*[Merge(1)] * (1000 - len(project)))
        self.refuses(TooMany("deeds", 1000), project.do, Merge(1))
        self.refuses(TooMany("deeds", 1000), project.do, Fix("q"))
        self.assertFalse(project.let(Merge(1)))
        self.assertEqual(list(project.choices()), [])
        project.undo()
        self.assertTrue(project.let(Merge(1)))
        self.assertEqual(project.counts, {"cut": 6, "offer": 60, "live": 1, "day": 200, "merge": 732})

    def test_do_all(self):
        project = made("f : cut, fix f")
        project.undo()
        before = picture(project)
        for deeds, error in (((Offer(1), Live(1), Live(1)), Undone(3)), ((Fix("f"), Cut(), Fix("z")), NoFix("z")),
                             ((Cut(), None), BadDeed(None))):
            self.refuses(error, project.do_all, *deeds)
            self.assertEqual(picture(project), before)
        self.assertEqual(project.do_all(), [])
        self.assertEqual(picture(project), before)
        project.book = Book.read("live once: never")
        before = picture(project)
        self.refuses(Barred(Clause("live", "once")), project.do_all, Offer(1), Live(1))
        self.assertEqual(picture(project), before)
        self.assertEqual(project.do_all(Offer(1), Offer(1)),
                         [Release(Number(1, 0), Lot()), Release(Number(1, 1), Lot())])
        self.assertEqual(project.undone, ())


class UndoTest(EditionTest):
    def test_undo_and_again(self):
        project = Project(Lot("f"))
        self.refuses(Nothing(), project.undo)
        self.refuses(Nothing(), project.again)
        project.do_all(Cut(), Offer(1), Live(1), Day(1))
        self.assertEqual([project.undo() for _ in range(3)], [Day(1), Live(1), Offer(1)])
        self.assertEqual(project.undone, (Offer(1), Live(1), Day(1)))
        self.assertEqual((len(project), project.ground_now), (1, History.read("f : cut").ground))
        self.assertEqual(project.again(), Release(Number(1, 0), Lot()))
        self.assertEqual(project.undone, (Live(1), Day(1)))
        self.assertEqual([project.again(), project.again()], [None, (1,)])
        self.refuses(Nothing(), project.again)
        self.assertEqual(project.history_now, History.read("f : cut, offer 1, live 1, day 1"))
        project.undo()
        project.do(Day(1))
        self.assertEqual(project.undone, ())
        self.refuses(Nothing(), project.again)

    def test_what_leaves_them(self):
        project = made("f : cut, fix f, cut")
        project.undo()
        for call in (lambda: project.do(Fix("f")), lambda: project.do_all(Fix("f")), project.finish,
                     lambda: project.do(None)):
            self.assertIsNotNone(heard(call))
            self.assertEqual(project.undone, (Cut(),))
        project.do_all(Cut())
        self.assertEqual(project.undone, ())

    def test_again_under_another_book(self):
        project = made("f : cut, fix f, offer 1")
        project.undo()
        project.undo()
        project.book = Book.read("fix once: never")
        self.refuses(Barred(Clause("fix", "once")), project.again)
        self.assertEqual(project.undone, (Fix("f"), Offer(1)))
        project.book = Book.read("fix once: own lacks")
        self.assertIsNone(project.again())
        self.assertEqual(project.undone, (Offer(1),))
        self.assertEqual(project.again(), Release(Number(1, 0), Lot()))

    def test_back_to_the_start(self):
        for rng in randoms("back", 10):
            history = random_history(rng, many=30)
            project = Project(history.lot)
            project.do_all(*history)
            for k in range(len(history), 0, -1):
                self.assertEqual(project.history_now, history.ahead(k))
                self.assertEqual(project.undo(), history[k - 1])
                self.assertEqual(project.undone, tuple(history[k - 1:]))
            for k in range(len(history)):
                project.again()
                self.assertEqual(project.history_now, history.ahead(k + 1))


class FinishTest(EditionTest):
    def test_rests(self):
        rows = [
            ("f g h : fix f, fix g, fix h, cut, unfix f, fix f, cut, carry f 1, merge 1 to f", "Undone"),
            ("f g h : cut, fix f, fix g, fix h, merge 1 to g", "merge 1"),
            ("f g : cut, fix f, fix g, merge 1 to g", "merge 1"),
            ("f : cut, cut, cut, offer 1, offer 2, offer 3, rise 1 2 3 to 1", "rise 2 3"),
            ("f : cut, cut, offer 1, offer 2, rise 1 2, night 1 2 to 1", "night 2"),
            ("f : cut, offer 1, live 1, day 1, day 1, day 1, renew 1 2 3 to 2", "renew 3"),
        ]
        for text, rest in rows[1:]:
            project = made(text)
            history = project.history_now
            told = project.finish()
            self.assertEqual(project.history_now, history + rest_of(history[-1]))
            self.assertEqual(str(project.history_now[-1]), rest)
            self.assertEqual(told, (2,) if rest == "night 2" else None)
            self.refuses(Nothing(), project.finish)

    def test_nothing(self):
        self.refuses(Nothing(), Project(Lot()).finish)
        for text in ("f : cut", "f : cut, offer 1, rise 1", "f : cut, merge 1"):
            project = made(text)
            self.refuses(Nothing(), project.finish)
            self.assertEqual(project.history_now, History.read(text))

    def test_asked_anew(self):
        project = made("f : cut, cut, offer 1, offer 2, rise 1 2 to 1", Book.read("rise elder: other unup"))
        project.undo()
        self.assertIsNone(project.again())
        self.refuses(Barred(Clause.read("rise elder: other unup")), project.finish)
        self.assertEqual(len(project), 5)
        ended = made("f : cut, fix f, merge 1 to f, end 1")
        ended.undo()
        self.assertIsNone(ended.finish())


class BookTest(EditionTest):
    def test_exchanged(self):
        project = made("f : fix f, cut, drop f 1, offer 1")
        for value in any_values():
            if value is not None and type(value) is not Book:
                self.refuses(BadBook("book"), project.set_book, value)
                self.refuses(BadBook("book"), setattr, project, "book", value)
        first, second = Book.read("drop once: never; offer once: never"), Book.read("offer once: never; unfix once: never")
        self.refuses(Barred(Clause("drop", "once")), project.set_book, first)
        self.refuses(Barred(Clause("offer", "once")), setattr, project, "book", second)
        self.assertEqual(project.book, Book())
        project.undo()
        project.book = second
        self.assertEqual((project.book, project.undone), (second, (Offer(1),)))
        self.assertIsNone(project.set_book(None))
        self.assertEqual((project.book, project.undone), (Book(), (Offer(1),)))
        project.set_book(book=second)
        self.assertEqual(project.book, second)

    def test_which_clause_bars(self):
        seen = 0
        for rng in randoms("exchange", 60):
            history, book = random_history(rng), random_book(rng, 5)
            project = Project(history.lot)
            project.do_all(*history)
            at = book.lets(history)
            if at is None:
                project.book = book
                self.assertEqual(project.book, book)
                continue
            seen += 1
            clause = book.refusal(history.ahead(at), history[at]).clause
            self.refuses(Barred(clause), project.set_book, book)
            self.assertEqual(project.book, Book())
        self.assertTrue(10 < seen < 60)


class ChoicesTest(EditionTest):
    def test_order(self):
        project = made("f g : fix f, cut, cut, offer 1, offer 2, live 1, day 1, day 1")
        self.assertEqual([str(deed) for deed in project.choices()], [
            "fix g", "unfix f", "carry g 1", "carry g 2", "drop f 1", "drop f 2", "merge 1", "merge 2", "cut", "end 1", "end 2",
            "offer 1", "offer 2", "try 1 2", "probe 2 1", "live 2", "rise 2", "down 1", "day 1", "night 1",
            "redo 1", "redo 2", "renew 1", "renew 2", "shut 1", "shut 2"])
        project.book = Book.read("drop once: own unshipped; end once: never; merge newer: other has; unfix once: never")
        self.assertEqual([str(deed) for deed in project.choices()], [
            "fix g", "carry g 1", "carry g 2", "merge 2", "cut",
            "offer 1", "offer 2", "try 1 2", "probe 2 1", "live 2", "rise 2", "down 1", "day 1", "night 1",
            "redo 1", "redo 2", "renew 1", "renew 2", "shut 1", "shut 2"])

    def test_beside_let(self):
        for rng in randoms("choices", 15):
            history = random_history(rng, ("f", "g"), many=25)
            project = Project(history.lot, NEEDS, Book())
            project.do_all(*history)
            book = random_book(rng, 6)
            if book.lets(project.history_now) is None:
                project.book = book
            found = list(project.choices())
            self.assertTrue(all(project.let(deed) for deed in found))
            lines, days = project.ground_now.line_count, project.ground_now.day_count
            every = [f"{kind} {fix}" for kind in ("fix", "unfix") for fix in "fg"]
            every += [f"{kind} {fix} {line}" for kind in ("carry", "drop") for fix in "fg" for line in range(1, lines + 1)]
            every += [f"merge {line}" for line in range(1, lines + 1)] + ["cut"]
            every += [f"{kind} {line}" for kind in ("end", "offer") for line in range(1, lines + 1)]
            for kind in ("try", "probe", "meet"):
                every += [f"{kind} {line} {mate}" for line in range(1, lines + 1) for mate in range(1, lines + 1)
                          if line < mate or (kind == "probe" and line != mate)]
            every += [f"{kind} {line}" for kind in ("live", "rise", "down", "day", "night") for line in range(1, lines + 1)]
            every += [f"{kind} {day}" for kind in ("redo", "renew", "shut") for day in range(1, days + 1)]
            self.assertEqual([str(deed) for deed in found], [text for text in every if project.let(Deed.read(text))])

    def test_while_deeds_are_done(self):
        project = made("f : cut")
        expected = [str(deed) for deed in project.choices()]
        found = []
        for deed in project.choices():
            found.append(str(deed))
            project.do(Cut()) if len(project) < 5 else project.set_book(Book.read("live once: never"))
        self.assertEqual(found, expected)
        # It is of the project as it is when the first one is asked for.
        late = project.choices()
        project.do(Offer(1))
        project.do(Offer(1))
        project.set_book(None)
        self.assertIn("live 1", [str(deed) for deed in late])


class WishesTest(EditionTest):
    def test_named_wishes_are_kept(self):
        """Whatever a project does under a named book, the wish of this name is kept; without the book it is broken once."""
        broken = 0
        for name in ("users", "testers", "needs", "clerks"):
            for rng in randoms(name, 6):
                wish = getattr(Wish, "for_" + name)()
                project = Project(Lot("f", "g"), NEEDS, getattr(Book, "for_" + name)())
                free = Project(Lot("f", "g"), NEEDS)
                for _ in range(60):
                    for each in (project, free):
                        told = [deed for deed in each.choices() if deed.KIND != "cut" or each.ground_now.line_count < 3]
                        plain = rng.choice(told)
                        many = random_deed(rng, "fg", 3, 4)
                        each.do(many if each.let(many) and many.KIND not in ("end", "cut") else plain)
                    self.assertTrue(wish(project.ground_now, project.needs), str(project.history_now))
                    broken += not wish(free.ground_now, free.needs)
        self.assertGreater(broken, 50)


class TrialTest(EditionTest):
    def setUp(self):
        self.project = made("f : cut, offer 1, live 1", Book.read("drop once: never"))
        self.project.undo()
        self.before = picture(self.project)

    def change(self):
        self.project.do_all(Fix("f"), Merge(1))
        self.project.undo()
        self.project.book = Book.read("end once: never")

    def test_not_kept(self):
        with self.project.trial() as trial:
            self.change()
            self.assertNotEqual(picture(self.project), self.before)
        self.assertEqual(picture(self.project), self.before)
        self.assertIsNotNone(trial)

    def test_kept(self):
        with self.project.trial() as trial:
            self.change()
            self.assertIsNone(trial.keep())
            after = picture(self.project)
        self.assertEqual(picture(self.project), after)
        self.assertNotEqual(after, self.before)

    def test_errors_go_on(self):
        for is_kept in (False, True):
            for error, raised in ((ValueError("own"), ValueError), (KeyError(1), KeyError)):
                with self.assertRaises(raised) as found:
                    with self.project.trial() as trial:
                        self.change()
                        if is_kept:
                            trial.keep()
                        raise error
                self.assertIs(found.exception, error)
                self.assertEqual(picture(self.project), self.before)
        with self.assertRaises(Undone):
            with self.project.trial() as trial:
                trial.keep()
                self.project.do(Cut())
                self.project.do(Day(1))
        self.assertEqual(picture(self.project), self.before)

    def test_nested(self):
        for outer_kept, inner_kept in ((False, False), (False, True), (True, False), (True, True)):
            self.setUp()
            with self.project.trial() as outer:
                self.project.do(Cut())
                middle = picture(self.project)
                with self.project.trial() as inner:
                    self.change()
                    if inner_kept:
                        inner.keep()
                    changed = picture(self.project)
                self.assertEqual(picture(self.project), changed if inner_kept else middle)
                if outer_kept:
                    outer.keep()
            expected = {(True, True): changed, (True, False): middle}.get((outer_kept, inner_kept), self.before)
            self.assertEqual(picture(self.project), expected)

    def test_an_error_within_another_block(self):
        with self.project.trial() as outer:
            self.project.do(Cut())
            middle = picture(self.project)
            with self.assertRaises(Nothing):
                with self.project.trial() as inner:
                    inner.keep()
                    self.change()
                    self.project.finish()
            self.assertEqual(picture(self.project), middle)
            outer.keep()
        self.assertEqual(picture(self.project), middle)

    def test_as_it_was_when_the_block_began(self):
        trial = self.project.trial()
        self.project.do(Cut())
        middle = picture(self.project)
        with trial:
            self.change()
        self.assertEqual(picture(self.project), middle)

    def test_attempt(self):
        for kept in (False, None, 1, 0, "yes", [True]):
            told = self.project.attempt(lambda same: (self.change(), same is self.project, len(same)), kept)
            self.assertEqual(told, (None, True, 3))
            self.assertEqual(picture(self.project), self.before)
        self.assertEqual(self.project.attempt(work=lambda same: same.do(Offer(1))), Release(Number(1, 1), Lot()))
        self.assertEqual(picture(self.project), self.before)
        self.refuses(Nothing(), self.project.attempt, lambda same: (same.do(Cut()), same.finish()), True)
        self.assertEqual(picture(self.project), self.before)
        with self.assertRaises(ZeroDivisionError):
            self.project.attempt(lambda same: (same.do(Cut()), 1 // 0), True)
        self.assertEqual(picture(self.project), self.before)
        self.assertEqual(self.project.attempt(lambda same: same.do(Cut()), kept=True), None)
        self.assertEqual((len(self.project), self.project.undone), (3, ()))


class OthersTest(EditionTest):
    def test_twin(self):
        project = made("f : cut, offer 1, live 1", Book.read("drop once: never"), NEEDS)
        project.undo()
        twin = project.twin()
        self.assertEqual(twin, project)
        self.assertEqual(picture(twin), picture(project))
        twin.do(Cut())
        self.assertEqual((len(project), project.undone), (2, (Live(1),)))
        project.again()
        self.assertEqual((len(twin), len(project)), (3, 3))
        twin.book = None
        self.assertEqual(project.book, Book.read("drop once: never"))

    def test_equal(self):
        project = made("f : cut")
        self.assertEqual(project, made("f : cut", Book()))
        other = made("f : cut, cut")
        self.assertNotEqual(project, other)
        other.undo()
        self.assertEqual(project, other)
        self.assertNotEqual(project, made("f : cut", Book.read("drop once: never")))
        self.assertNotEqual(project, made("f : cut", None, NEEDS))
        self.assertNotEqual(project, made("f g : cut"))
        for value in any_values():
            self.assertEqual(project == value, False)

    def test_only(self):
        project = made("f g : fix f, fix g, cut, offer 1, live 1, cut, offer 2, live 2, night 1 2", Book.for_needs(), NEEDS)
        project.undo()
        project.again()
        project.undo()
        cut = project.only(Lot("f"), [2], [])
        self.assertEqual(cut.history_now, project.history_now.only(Lot("f"), [2], []))
        self.assertEqual((cut.book, cut.undone, cut.lot, cut.needs), (Book.for_needs(), (), Lot("f"), Needs()))
        self.assertEqual(project.only(lot=Lot("f", "g"), lines=(1, 2), days=()).needs, NEEDS)
        for value in any_values():
            if type(value) is not Lot:
                self.refuses(BadLot("lot"), project.only, value, None, None)
            if not isinstance(value, (list, tuple)):
                self.refuses(BadPlace("lines"), project.only, Lot("f"), value, None)
                self.refuses(BadPlace("days"), project.only, Lot("f"), (), value)
        self.refuses(NoLine(3), project.only, Lot(), [1, 3], [])
        self.refuses(NoDay(1), project.only, Lot(), [1], [1])

    def test_only_under_random_books(self):
        for rng in randoms("only", 40):
            history, book = random_history(rng), random_book(rng, 4)
            at = book.lets(history)
            history = history if at is None else history.ahead(at)
            project = Project(history.lot, None, book)
            project.do_all(*history)
            ground = history.ground
            lines = sorted(rng.sample(range(1, ground.line_count + 1), rng.randint(0, ground.line_count)))
            days = [day for day in range(1, ground.day_count + 1) if ground.line_of(day) in lines and rng.random() < 0.7]
            cut = project.only(Lot("f", "h"), lines, days)
            self.assertEqual(cut.history_now, history.only(Lot("f", "h"), lines, days))
            self.assertIsNone(book.lets(cut.history_now))

    def test_deeds_are_checked_in_order(self):
        project = made("f : cut", Book.read("offer once: never; rise once: never"))
        self.refuses(NoLine(2), project.do, Rise(1, 2))
        self.refuses(Undone(1), project.do, Rise(1))
        self.refuses(Barred(Clause("offer", "once")), project.do, Offer(1))
        self.refuses(NoFix("z"), project.do, Drop("z", 5))
        self.refuses(NoDay(1), project.do, Shut(1))
        self.refuses(NoLine(2), project.do, Night(2))
        self.refuses(BadHistory("other"), lambda: project.history_now + None)


if __name__ == "__main__":
    unittest.main()

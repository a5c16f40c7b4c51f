"""The texts of answers and projects, and reading them."""

import unittest

from editionlines.books import Book
from editionlines.clauses import Clause
from editionlines.climbs import Climb, NoClimb, climb
from editionlines.compared import Follows, Parting, Within, follows, within
from editionlines.deeds import Carry, Cut, Deed, Fix, Offer
from editionlines.errors import BadProject, BadText, BadWay, EditionError
from editionlines.histories import History
from editionlines.judging import Broken, Holds, judged
from editionlines.kinds import Kind
from editionlines.look_compared import shows_follows, shows_within
from editionlines.look_judging import shows_judged
from editionlines.lots import Lot
from editionlines.needs import Needs
from editionlines.numbers import Number
from editionlines.projects import Project
from editionlines.reader import read_answer, read_project
from editionlines.standings import Standing
from editionlines.texts import project_text, write_answer
from editionlines.wishes import Fact, Wish
from tools import EditionTest, any_values, random_book, random_deed, random_history, random_kind, random_wish, randoms, same

IDLE = Wish(Kind(0, 1), Fact("A", "ended"), Fact("A", "open"))
HOLDS = write_answer(judged(Book(), IDLE))
BROKEN = write_answer(judged(Book(), Wish.for_needs()))
WITHIN = write_answer(within(Book.read("cut once: never; fix once: never"), Book.read("cut once: never; fix once: main lacks")))
PARTING = write_answer(Parting(History.read("f g : fix f, cut, unfix f", Needs({"f": ["g"]}))))
PAGE = "lot f g\nneeds f : g\nclause drop once: never\nclause end once: own open\ndeed fix f\ndeed cut\ndeed carry g 1\nagain offer 1\nagain live 1"


def answers():
    """Answers of each kind, most of them returned by the functions of the package."""
    for rng in randoms("answers", 40):
        kind = random_kind(rng)
        book, other = random_book(rng), random_book(rng)
        if len(kind.days) < 2:
            try:
                yield judged(book, random_wish(rng, kind))
            except EditionError:
                pass
        for clause in other:
            if clause.scope not in ("newer", "elder", "day") and clause.kind not in ("redo", "renew", "shut"):
                yield follows(book, clause)
        history = random_history(rng, many=30, lines=3)
        numbers = [release.number for release in history.releases]
        if numbers:
            yield climb(history, rng.choice(numbers), rng.choice(numbers), Lot(*rng.sample(("f", "g", "h"), 1)), rng.randint(0, 2))
    yield within(Book(), Book())
    yield within(Book.read("cut once: never; fix once: never"), Book.read("cut once: never; fix once: main lacks"))
    yield Holds(())
    yield Follows(Standing.starts(Kind(1, 1)) * 2)
    yield Within(((), Standing.starts(Kind(2, 2, (1, 2))), ()))
    yield Within(((),) * 24)
    yield Broken(History(Lot()), {})
    yield Broken(History.read("f g : -", Needs({"f": ["g"], "abc": ["d"]})), {"E": 200, "D": 1, "B": 6, "A": 1, "G": "abcdefgh", "F": "f"})
    yield Climb(())
    yield NoClimb(())
    yield NoClimb((Number(6, 59), Number(1, 0), Number(6, 59)))


def spoilt_rows(row):
    """Rows with a word left out, doubled, exchanged or put in."""
    words = row.split(" ")
    found = []
    for k in range(len(words)):
        found += [" ".join(words[:k] + words[k + 1:]), " ".join(words[:k] + [words[k]] + words[k:])]
        for other in ("", "x y", "0", "99", "-", ",", "zz9", "f", "A"):
            found += [" ".join(words[:k] + [other] + words[k:]), " ".join(words[:k] + [other] + words[k + 1:])]
    return found + [row + " ", " " + row, row + " x"]


class RowsTest(EditionTest):
    """A test of what reads texts in rows."""

    def refuses_rows(self, read, rows):
        for text, line, word in rows:
            with self.subTest(text=text):
                self.refuses(BadText(line, word), read, text)

    def look_at_spoilt_rows(self, read, write, text):
        """Each spoilt text must be read as what has this text, or be refused at a word that can be told.

        Then all rows ahead of it, and all words ahead of it in its row, can stand; no rows behind it change what is told.
        """
        rows = text.split("\n")
        for at, row in enumerate(rows):
            for spoilt in spoilt_rows(row) + ["\n".join([row, row])]:
                told = rows[:at] + [spoilt] + rows[at + 1:]
                self.look_at("\n".join(told), read, write)
            self.look_at("\n".join(rows[:at] + rows[at + 1:]), read, write)
            self.look_at("\n".join(rows[:at]), read, write)
        self.look_at(text + "\n", read, write)
        self.look_at("\n" + text, read, write)

    def look_at(self, text, read, write):
        told = text.split("\n")
        try:
            self.assertEqual(write(read(text)), text)
        except BadText as error:
            with self.subTest(text=text):
                self.assertTrue(0 <= error.line <= len(told))
                words = told[error.line].split(" ") if error.line < len(told) else []
                self.assertTrue(0 <= error.word <= len(words))
                if error.line < len(told):
                    self.refuses(BadText(error.line, error.word), read, "\n".join(told[:error.line + 1] + ["zz", "-"]))
                # What is ahead can stand: cut off there, only something is missing, or a lesser row is refused.
                try:
                    read("\n".join(told[:error.line]))
                except BadText as ahead:
                    self.assertEqual((ahead.line, ahead.word), (error.line, 0) if error.line else (0, 0))


class AnswerTest(RowsTest):
    def test_by_hand(self):
        start = Standing.starts(Kind(0, 1), ("open",))[0]
        self.assertEqual(write_answer(Holds((start,))), f"holds 1\n{start}")
        self.assertEqual(write_answer(Follows(())), "follows 0")
        self.assertEqual(write_answer(Within(())), "within 0")
        self.assertEqual(write_answer(Within(((), (start, start)))), f"within 2\ntable 0\ntable 2\n{start}\n{start}")
        self.assertEqual(write_answer(Broken(History.read("f g : cut", Needs({"f": ["g"]})), {"A": 1, "G": "g", "F": "f"})),
                         "broken\nneeds f : g\nf g : cut\nthings F f , G g , A 1")
        self.assertEqual(write_answer(Broken(History(Lot()), {})), "broken\nneeds -\n- : -\nthings -")
        self.assertEqual(write_answer(answer=Climb((Number(1, 0), Number(3, 12)))), "climb 1.0 3.12")
        self.assertEqual([write_answer(Climb(())), write_answer(NoClimb((Number(2, 0),)))], ["climb -", "noclimb 2.0"])

    def test_both_ways(self):
        kinds = {}
        for answer in answers():
            text = write_answer(answer)
            again = read_answer(text)
            self.assertIs(type(again), type(answer))
            self.assertEqual(again, answer)
            self.assertEqual(write_answer(again), text)
            kinds[type(answer)] = kinds.get(type(answer), 0) + 1
        self.assertTrue(len(kinds) == 7 and min(kinds.values()) > 1, kinds)

    def test_what_is_read_is_as_right(self):
        held, broken = judged(Book(), IDLE), judged(Book(), Wish.for_needs())
        self.assertTrue(shows_judged(Book(), IDLE, read_answer(write_answer(held))))
        self.assertTrue(shows_judged(Book(), Wish.for_needs(), read_answer(write_answer(broken))))
        book, clause = Book.read("carry once: main has"), Clause.read("fix newer: never")
        self.assertTrue(shows_follows(book, clause, read_answer(write_answer(follows(book, clause)))))
        one, other = Book.read("cut once: never"), Book.read("cut once: main lacks")
        self.assertTrue(shows_within(one, other, read_answer(write_answer(within(one, other)))))
        self.assertTrue(shows_within(other, one, read_answer(write_answer(within(other, one)))))

    def test_whether_it_is_right_is_not_looked_at(self):
        standings = [Standing.starts(Kind(0, 1))[0], Standing.starts(Kind(2, 0), ())[1]]
        text = "holds 2\n" + "\n".join(map(str, standings))
        self.assertEqual(read_answer(text), Holds(tuple(standings)))
        self.assertEqual(read_answer("broken\nneeds -\nf : fix f\nthings A 6 , D 200"), Broken(History(Lot("f"), [Fix("f")]), {"A": 6, "D": 200}))
        self.assertTrue(same(list(read_answer("broken\nneeds -\nf : -\nthings F xyz , E 7").things.items()), [("F", "xyz"), ("E", 7)]))

    def test_no_answers(self):
        papers = (Holds, Broken, Follows, Within, Parting, Climb, NoClimb)
        for value in any_values():
            if not isinstance(value, papers):
                self.refuses(BadWay(value), write_answer, value)
                self.refuses(BadWay(value), write_answer, answer=value)

    def test_texts_that_are_none(self):
        for value in any_values():
            if not isinstance(value, str):
                self.refuses(BadText(0, 0), read_answer, value)
                self.refuses(BadText(0, 0), read_project, value)

    def test_first_rows(self):
        self.refuses_rows(read_answer, [
            ("", 0, 0), ("hold 1", 0, 0), ("Holds 1", 0, 0), (" holds 1", 0, 0), ("holds", 0, 1), ("holds ", 0, 1), ("holds x", 0, 1),
            ("holds -1", 0, 1), ("holds 01", 0, 1), ("holds 20001", 0, 1), ("holds 20000", 1, 0), ("holds 1 1", 0, 2), ("holds 0 ", 0, 2),
            ("follows", 0, 1), ("follows 20001", 0, 1), ("follows 2 x", 0, 2), ("within", 0, 1), ("within 25", 0, 1), ("within 24", 1, 0),
            ("within 0 0", 0, 2), ("broken 1", 0, 1), ("broken", 1, 0), ("parting x", 0, 1), ("parting", 1, 0), ("\nholds 0", 0, 0),
            ("climb", 0, 1), ("climb ", 0, 1), ("climb 1.0 -", 0, 2), ("climb - 1.0", 0, 2), ("climb 1.0 7.0", 0, 2), ("climb 1.60", 0, 1),
            ("climb 1.0  2.0", 0, 2), ("climb 1.0 ", 0, 2), ("noclimb", 0, 1), ("noclimb 1", 0, 1), ("noclimb 0.0", 0, 1), ("climb - -", 0, 2)])

    def test_tables(self):
        start = str(Standing.starts(Kind(0, 1))[0])
        many = len(start.split(" "))
        self.refuses_rows(read_answer, [
            ("holds 1", 1, 0), ("holds 2\n" + start, 2, 0), ("holds 0\n", 1, 0), ("holds 1\n" + start + "\n", 2, 0),
            ("holds 1\n" + start + "\n" + start, 2, 0), ("holds 1\n", 1, 0), ("holds 1\nkind", 1, 1), ("holds 1\nkind 0 1 ; tells", 1, 5),
            ("holds 1\n" + start + " x", 1, many), ("holds 2\n" + start + "\nkind 3", 2, 1), ("holds 2\nkind 0 1 x\n" + start, 1, 3),
            ("within 1\nholds 0", 1, 0), ("within 1\ntable", 1, 1), ("within 1\ntable 20001", 1, 1), ("within 1\ntable 0 0", 1, 2),
            ("within 1\ntable 1", 2, 0), ("within 2\ntable 0", 2, 0), ("within 1\ntable 0\ntable 0", 2, 0), ("within 0\ntable 0", 1, 0),
            ("within 2\ntable 1\n" + start + "\ntable 1\n" + start + " -", 4, many), ("within 2\ntable 1\n" + start + "\n" + start, 3, 0)])
        self.assertEqual(len(read_answer("holds 3\n" + "\n".join([start] * 3)).table), 3)

    def test_histories_and_things(self):
        self.refuses_rows(read_answer, [
            ("parting\nneed -", 1, 0), ("parting\nneeds", 1, 1), ("parting\nneeds ", 1, 1), ("parting\nneeds f", 1, 2), ("parting\nneeds - -", 1, 2),
            ("parting\nneeds f : f", 1, 0), ("parting\nneeds f : g ; g : f", 1, 0), ("parting\nneeds a : b c d e f g h i", 1, 0),
            ("parting\nneeds f : g ; e : g", 1, 5), ("parting\nneeds -", 2, 0), ("parting\nneeds -\n", 2, 0), ("parting\nneeds -\nf", 2, 1),
            ("parting\nneeds -\nf : fix", 2, 3), ("parting\nneeds -\nf : fix g", 2, 0), ("parting\nneeds -\nf : fix f, fix f", 2, 0),
            ("parting\nneeds -\nf : cut, cut, cut, cut, cut, cut, cut", 2, 0), ("parting\nneeds -\nf : fix f, cot", 2, 4),
            ("parting\nneeds -\nf : -\n", 3, 0), ("parting\nneeds -\nf : -\nthings -", 3, 0), ("broken\nneeds -\nf : -", 3, 0),
            ("broken\nneeds -\nf : -\n", 3, 0), ("broken\nneeds -\nf : -\nthings", 3, 1), ("broken\nneeds -\nf : -\nthings ", 3, 1),
            ("broken\nneeds -\nf : -\nthings - -", 3, 2), ("broken\nneeds -\nf : -\nthings -\n-", 4, 0), ("broken\nneeds -\nf : -\nthings F", 3, 2),
            ("broken\nneeds -\nf : -\nthings F 1", 3, 2), ("broken\nneeds -\nf : -\nthings A f", 3, 2), ("broken\nneeds -\nf : -\nthings A 7", 3, 2),
            ("broken\nneeds -\nf : -\nthings B 0", 3, 2), ("broken\nneeds -\nf : -\nthings D 201", 3, 2), ("broken\nneeds -\nf : -\nthings E 01", 3, 2),
            ("broken\nneeds -\nf : -\nthings H f", 3, 1), ("broken\nneeds -\nf : -\nthings F f g", 3, 3), ("broken\nneeds -\nf : -\nthings F f ,", 3, 4),
            ("broken\nneeds -\nf : -\nthings F f, A 1", 3, 2), ("broken\nneeds -\nf : -\nthings A 1 , F f", 3, 4),
            ("broken\nneeds -\nf : -\nthings A 1 , A 1", 3, 4), ("broken\nneeds -\nf : -\nthings D 1 , B 1", 3, 4),
            ("broken\nneeds -\nf : -\nthings E 1 , F f", 3, 4), ("broken\nneeds -\nf : -\nthings F f , - ", 3, 4)])

    def test_spoilt_answers(self):
        for text in (HOLDS, BROKEN, WITHIN, PARTING, "climb 1.0 2.5 3.0", "noclimb -"):
            self.look_at_spoilt_rows(read_answer, write_answer, text)


class ProjectTextTest(RowsTest):
    def test_by_hand(self):
        project = Project(Lot("f", "g"), Needs({"f": ["g"]}), Book.read("drop once: never; end once: own open"))
        project.do_all(Fix("f"), Cut(), Carry("g", 1), Offer(1))
        project.undo()
        self.assertEqual(project_text(project), "lot f g\nneeds f : g\nclause drop once: never\nclause end once: own open\ndeed fix f\ndeed cut\n"
                                                "deed carry g 1\nagain offer 1")
        self.assertEqual(project_text(project=Project(Lot())), "lot -\nneeds -")
        project.undo()
        self.assertEqual(project_text(project).split("\n")[-2:], ["again carry g 1", "again offer 1"])

    def test_both_ways(self):
        undone = 0
        for rng in randoms("projects", 50):
            project = Project(Lot("f", "g", "h"), rng.choice([None, Needs({"f": ["g"]})]), random_book(rng, 4))
            for _ in range(60):
                deed = random_deed(rng, ("f", "g", "h"), 3, 4)
                if project.let(deed):
                    project.do(deed)
            for _ in range(rng.randint(0, min(4, len(project)))):
                project.undo()
            if rng.random() < 0.3:
                project.book = None
            text = project_text(project)
            again = read_project(text)
            self.assertEqual(again, project)
            self.assertEqual([again.undone, again.lot, again.needs, again.book], [project.undone, project.lot, project.needs, project.book])
            self.assertEqual(project_text(again), text)
            undone += len(project.undone)
            self.lead_on(again, project)
        self.assertGreater(undone, 40)

    def lead_on(self, one, other):
        """Both projects go on likewise: what was taken back is done again, or barred, and deeds are taken back."""
        while other.undone:
            deed = other.undone[0]
            try:
                told = other.again()
            except EditionError as error:
                with self.assertRaises(type(error)):
                    one.again()
                break
            self.assertTrue(same(one.again(), told))
            self.assertEqual(one.undone, other.undone)
            self.assertEqual(list(one)[-1], deed)
        while len(other):
            self.assertEqual(one.undo(), other.undo())
        self.assertEqual(one, other)

    def test_again_is_not_asked_of_the_book(self):
        project = read_project("lot f\nneeds -\nclause fix once: never\ndeed cut\nagain fix f\nagain carry f 1")
        self.assertEqual([len(project), len(project.undone), project.let(Fix("f"))], [1, 2, False])
        with self.assertRaises(EditionError):
            project.again()
        project.book = None
        self.assertEqual([project.again(), project.again(), len(project)], [None, None, 3])

    def test_no_projects(self):
        for value in any_values():
            if not isinstance(value, Project):
                self.refuses(BadProject("project"), project_text, value)

    def test_rows_that_cannot_stand(self):
        head = "lot f g\nneeds -\n"
        self.refuses_rows(read_project, [
            ("", 0, 0), ("lot", 0, 1), ("lot ", 0, 1), ("lots f", 0, 0), ("lot f f", 0, 2), ("lot g f", 0, 2), ("lot - f", 0, 2), ("lot f", 1, 0),
            ("lot f\n", 1, 0), ("lot f\nneed -", 1, 0), ("lot f\nneeds", 1, 1), ("lot f\nneeds f : g ; g : f", 1, 0), ("lot f\nneeds f g", 1, 2),
            ("lot f\nneeds a : b c d e f g h i", 1, 0), (head, 2, 0), (head + "clauses", 2, 0), (head + "clause", 2, 1), (head + "clause ", 2, 1),
            (head + "clause drop", 2, 2), (head + "clause drop once", 2, 2), (head + "clause drop once: never x", 2, 4), (head + "deed", 2, 1),
            (head + "deed fix", 2, 2), (head + "deed fix h", 2, 0), (head + "deed unfix f", 2, 0), (head + "deed carry f 1", 2, 0),
            (head + "deed fix f\n", 3, 0), (head + "deed fix f\ndeed fix f", 3, 0), (head + "deed fix f\ndeed fix f g", 3, 3),
            (head + "clause fix once: never\ndeed fix f", 3, 0), (head + "clause fix once: never\ndeed fix f x", 3, 3),
            (head + "deed fix f\nclause drop once: never", 3, 0), (head + "again fix f\ndeed cut", 3, 0), (head + "again unfix f", 2, 0),
            (head + "deed cut\nagain fix f\nagain fix f", 4, 0), (head + "deed cut\nagain fix f\nagain fix", 4, 2), (head + "again", 2, 1),
            (head + "again fix f\nclause drop once: never", 3, 0), ("needs -\nlot f", 0, 0), (head + "lot f g", 2, 0), (head + "needs -", 2, 0)])

    def test_clauses_in_order(self):
        head = "lot f g\nneeds -\nclause drop once: never\nclause "
        self.refuses_rows(read_project, [
            (head + "drop once: never", 3, 1), (head + "carry once: never", 3, 1), (head + "carry once: bogus", 3, 3), (head + "cut", 3, 2),
            (head + "drop elder: never", 3, 1), (head + "drop once: own x", 3, 4), (head + "drop x", 3, 2), (head + "bogus", 3, 1),
            (head + "zzz", 3, 1), (head + "drop once: main has", 3, 1), (head[:-1], 3, 1), (head, 3, 1), (head + "cut once: never x", 3, 4),
            (head + "carry once: main has or", 3, 6), (head + "carry elder: own has or main has", 3, 6), (head + "carry  once: never", 3, 2)])
        texts = [f"{kind} {scope}: never" for kind in ("carry", "cut", "drop", "end", "fix") for scope in ("elder", "newer", "need", "once", "user")]
        texts = sorted(texts)
        rows = ["lot f", "needs -"] + ["clause " + text for text in texts[:24]]
        self.assertEqual(len(read_project("\n".join(rows)).book), 24)
        self.refuses_rows(read_project, [
            ("\n".join(rows + ["clause " + texts[24]]), 26, 0), ("\n".join(rows + ["clause cut once: never"]), 26, 1),
            ("\n".join(rows + ["clause unfix once: x"]), 26, 3), ("\n".join(rows + ["clause unfix once: never", "x"]), 26, 0)])

    def test_what_is_no_clause_is_told_as_by_its_read(self):
        texts = [f"{kind} {scope}{end}" for kind in (*Deed.KINDS, "", "zzz") for scope in (*Clause.SCOPES, "often", "")
                 for end in ("", ":", ": never", ": never x", ": own", ": own open or", ": own open or main open", ": sometimes")]
        for last in ("carry once: never", "offer once: never", "unfix once: own open"):
            head = f"lot f\nneeds -\nclause {last}\nclause "
            for text in texts:
                try:
                    told = str(Clause.read(text)) > last
                except BadText as error:
                    self.refuses(BadText(3, error.word + 1), read_project, head + text)
                else:
                    if told:
                        self.assertEqual(project_text(read_project(head + text)), head + text)
                    else:
                        self.refuses(BadText(3, 1), read_project, head + text)

    def test_a_row_behind_the_last_clause(self):
        texts = [f"{kind} once: never" for kind in sorted(Deed.KINDS)]
        texts = sorted(texts + [f"{kind} elder: never" for kind in ("carry", "cut", "drop", "end", "fix")])
        head = "\n".join(["lot f", "needs -"] + ["clause " + text for text in texts]) + "\nclause "
        self.assertEqual(len(texts), 24)
        # What is no clause, what is no greater one, and what is one too many.
        self.refuses_rows(read_project, [
            (head + "cut once:", 26, 3), (head + "cut", 26, 2), (head + "cut once: never", 26, 1), (head + "unfix user: never", 26, 0),
            (head + "unfix user: always", 26, 3)])

    def test_many_deeds(self):
        rows = ["lot f", "needs -"] + ["deed fix f", "deed unfix f"] * 500
        project = read_project("\n".join(rows))
        self.assertEqual(len(project), 1000)
        self.refuses(BadText(1002, 0), read_project, "\n".join(rows + ["deed fix f"]))
        self.refuses(BadText(1002, 0), read_project, "\n".join(rows + ["again fix f"]))
        project.undo()
        self.assertEqual(project_text(read_project(project_text(project))), project_text(project))

    def test_spoilt_answers(self):
        self.look_at_spoilt_rows(read_project, project_text, PAGE)

    def test_needs_out_of_the_lot(self):
        page = "lot f\nneeds f : g ; h : i\ndeed fix f"
        self.assertEqual(project_text(read_project(page)), page)
        self.assertEqual(list(read_project(text=page)), [Deed.read("fix f")])


if __name__ == "__main__":
    unittest.main()

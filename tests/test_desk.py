"""The desk: its lines, its answers, what is taken back and done again."""

import unittest

from editionlines.books import Book
from editionlines.catchups import catchup
from editionlines.clauses import Clause
from editionlines.deeds import Deed
from editionlines.desk import Desk
from editionlines.errors import BadLine, Barred, EditionError
from editionlines.histories import History
from editionlines.judging import judged
from editionlines.lots import Lot
from editionlines.needs import Needs
from editionlines.prices import Prices
from editionlines.projects import Project
from editionlines.repair import least_repair, steps_of
from editionlines.texts import project_text
from editionlines.webs import Web
from editionlines.wishes import Wish
from tools import EditionTest, any_values, busy_history, random_clause, random_deed, randoms, same

USERS = "wish u never 1 2 : A runs F , B bares F , B up"
CHANGES = ["lot f g", "needs f : g", "fix f", "finish", "book drop once: never", "clause end once: never", "free end once: never", USERS, "forget u",
           "web 1 from 1 back 0"]
QUESTIONS = ["show", "clauses", "names", "let cut", "has 0", "kept u", "judge u", "follows cut once: never", "needless", "losses any",
             "climb 1.0 2.0 1 f", "untried", "meetable", "takedown", "rollout", "rollout 1 2", "repair", "due", "late", "remade 1", "catchup 1 2"]


REPAIR_KINDS = ("offer", "offer", "live", "live", "live", "carry", "carry", "drop", "meet", "day", "night", "night", "shut")


def told(*lines):
    """A desk that was told some lines, each of which it must take."""
    desk = Desk()
    for line in lines:
        answer = desk(line)
        assert not answer.startswith(("refused", "barred")), (line, answer)
    return desk


def busy():
    """A desk with lines, releases, days, wishes and ties."""
    return told("lot f g", "needs f : g", "cut", "fix g", "fix f", "cut", "offer 1", "offer 2", "live 2", "live 1", "night 1 2", "night 1 2",
                "shut 1", "carry f 1", "carry g 1", "offer 1", "live 1", "web 1 from 1 back 0 , 2 from 1 back 0", USERS)


class LinesTest(EditionTest):
    def test_a_new_desk(self):
        desk = Desk()
        self.assertEqual(desk.project_now(), Project(Lot()))
        self.assertTrue(same((desk.wishes_now(), len(desk), "u" in desk), ({}, 0, False)))
        self.assertEqual(desk.web_now(), Web())
        self.assertEqual(desk.run("show", "clauses", "names", "has 0", "undo", "again"), ["lot - / needs -", "-", "-", "-", "nothing", "nothing"])

    def test_deeds(self):
        desk = Desk()
        self.assertEqual(desk.run("lot f g", "cut", "fix f", "carry f 1", "offer 1", "live 1", "day 1", "cut", "offer 2", "rise 2", "night 1 2"),
                         ["ok", "ok", "ok", "ok", "1.0 f", "ok", "1", "ok", "2.0 f", "ok", "2 3"])
        self.assertEqual(desk.run("night 1 2 to 1", "finish", "merge 1 to f", "finish", "renew 1 2 to 1", "finish", "redo 1", "shut 1", "try 1 2",
                                  "probe 2 1", "meet 1 2", "down 1", "end 1", "drop f 2", "unfix f"),
                         ["4", "5", "ok", "ok", "ok", "ok", "ok", "ok", "ok", "ok", "ok", "ok", "ok", "ok", "ok"])
        self.assertEqual(desk.run("offer 2", "finish"), ["2.1 -", "refused Nothing"])
        self.assertEqual(len(desk.project_now()), 26)
        self.assertEqual(desk.ask(line="offer 2"), "2.2 -")
        self.assertEqual(desk(line="has 2"), "-")

    def test_new_projects(self):
        desk = told("lot f", "needs f : g", "book drop once: never", "cut")
        self.assertEqual(desk("needs g : h"), "ok")
        self.assertEqual(desk.project_now(), Project(Lot("f"), Needs({"g": ["h"]}), Book.read("drop once: never")))
        desk.run("cut", "lot g")
        self.assertEqual(desk.project_now(), Project(Lot("g"), None, Book.read("drop once: never")))
        self.assertEqual(desk.run("lot -", "show"), ["ok", "lot - / needs - / clause drop once: never"])

    def test_books(self):
        desk = told("lot f", "book drop once: never; end once: never")
        self.assertEqual(desk.run("clause cut once: never", "clauses", "cut"), ["ok", "cut once: never; drop once: never; end once: never",
                                                                               "barred cut once: never"])
        self.assertEqual(desk.run("free cut once: never", "free cut once: never", "cut", "clauses"), ["ok", "ok", "ok",
                                                                                                     "drop once: never; end once: never"])
        self.assertEqual(desk.run("clause cut once: never", "book cut once: never; drop once: never", "book -", "clauses"),
                         ["barred cut once: never", "barred cut once: never", "ok", "-"])
        kinds = ("carry", "cut", "drop", "end", "fix")
        many = sorted(f"{kind} {scope}: never" for kind in kinds for scope in ("elder", "need", "newer", "once", "user"))
        self.assertEqual(Desk().run("book " + "; ".join(many[:24]), "clause " + many[24], "clause " + many[3]), ["ok", "refused TooMany", "ok"])

    def test_wishes_and_webs(self):
        desk = told("wish b never 0 1 : A up", "wish abcdefgh never 0 0 : -", "wish b never 0 1 : A ended", "web 1 from 2 back 3")
        self.assertEqual([desk("names"), desk("wish b never 0 1 : A ended")], ["abcdefgh b", "ok"])
        self.assertEqual(list(desk.wishes_now()), ["abcdefgh", "b"])
        self.assertEqual(desk.wishes_now(), {"b": Wish.read("never 0 1 : A ended"), "abcdefgh": Wish.read("never 0 0 : -")})
        self.assertEqual(desk.web_now(), Web((1, 2, 3)))
        self.assertEqual(desk.run("forget b", "forget b", "names", "forget abcdefgh", "names", "web -"), ["ok", "refused", "abcdefgh", "ok", "-", "ok"])
        self.assertEqual([desk.web_now(), len(desk)], [Web(), 8])
        self.assertIs("b" in told("wish b never 0 1 : -"), True)
        for value in any_values():
            self.assertIs(value in told("wish f never 0 1 : -"), value == "f")

    def test_questions(self):
        desk = busy()
        project, web = desk.project_now(), desk.web_now()
        history = project.history_now
        self.assertEqual(desk("show"), project_text(project).replace("\n", " / "))
        self.assertEqual(desk.run("has 0", "has 1", "has 2", "let live 1", "let offer 1", "let fix h"), ["f g", "f g", "f g", "no", "yes", "no"])
        self.assertEqual(desk.run("kept u", "untried", "meetable", "takedown", "due", "late"), ["kept", "1.1 2.0", "1.1 2.0", "1 : 1", "3", "1"])
        # Day 1 is shut.
        self.assertEqual(desk.run("remade 1", "remade 3 1", "remade 4", "remade 2 2"), ["- : 1", "3 4 : 1", "4 : -", "2 : -"])
        for amounts in ((2,), (0, 4), (1,), (0,), (200,)):
            found = catchup(history, web, amounts)
            self.assertEqual(desk("catchup " + " ".join(map(str, amounts))), f"over {found.nights}" if found else "never")
        self.assertEqual(desk.run("losses any", "losses last", "losses live"), ["-", "-", "-"])
        self.assertEqual(desk.run("climb 1.0 2.0 1 -", "climb 1.0 1.0 0 f g", "climb 2.0 1.0 9 -", "climb 1.1 2.0 0 -"), ["1.0 2.0", "1.0", "none", "none"])
        self.assertEqual(desk.run("rollout", "rollout 1", "repair"), ["-", "-", "1 : down 1"])
        self.assertEqual(desk.run("offer 1", "offer 2", "rollout", "rollout 1 2", "probe 1 2", "try 1 2", "rollout 1 2", "rollout 2 1"),
                         ["1.2 f g", "2.1 f g", "stuck", "stuck", "ok", "ok", "live 1, live 2", "live 1, live 2"])
        self.assertEqual(desk.run("drop f 2", "offer 2", "losses any"), ["ok", "2.2 g", "1.1 2.2 f , 1.2 2.2 f , 2.0 2.2 f , 2.1 2.2 f"])

    def test_repairs(self):
        kinds = {}
        for rng in randoms("desk repairs", 60):
            history = busy_history(rng, lines=rng.randint(1, 3), many=30, kinds=REPAIR_KINDS, needs=Needs({"f": ["g"]}))
            found = least_repair(history, Prices(1, 1, 1, 1))
            deeds = [str(deed) for deed in steps_of(found.mending)]
            desk = told("lot f g", "needs f : g", *map(str, history))
            self.assertEqual(desk("repair"), f"{found.price} : {', '.join(deeds) or '-'}")
            for deed in deeds:
                kinds[deed.split(" ")[0]] = True
        self.assertTrue({"down", "carry", "meet", "redo"} <= set(kinds), kinds)

    def test_wishes_that_are_asked(self):
        desk = told("lot f g", "needs f : g", "wish a never 0 2 : A up , B up", "wish b never 0 0 : -", "wish c never 0 0 : main open",
                    "wish d never 2 1 : A bares G , A runs F", "wish e never 1 0 : main has F", "wish h never 0 1 1 : D shut")
        self.assertEqual(desk.run("kept a", "kept b", "kept c", "kept d", "kept e", "kept h"), ["kept", "here", "here", "kept", "kept", "kept"])
        desk.run("fix f", "cut", "cut", "offer 1", "offer 2", "rise 1 2", "day 2", "shut 1")
        self.assertEqual(desk.run("kept a", "kept d", "kept e", "kept h"), ["A 1 , B 2", "F f , G g , A 1", "F f", "A 2 , D 1"])
        self.assertEqual(desk.run("judge b", "judge d", "book offer need: other has or own lacks", "kept d"),
                         ["broken -", desk("judge d"), "barred offer need: other has or own lacks", "F f , G g , A 1"])
        found = judged(Book(), Wish.for_needs())
        self.assertEqual(desk("judge d"), "broken " + ", ".join(map(str, found.history)))
        self.assertEqual(told("book offer need: other has or own lacks", "wish d never 2 1 : A bares G , A runs F")("judge d"), "holds")
        self.assertEqual(told("lot f", USERS, "book -")("judge u"), "broken " + ", ".join(map(str, judged(Book(), Wish.for_users()).history)))

    def test_clauses_that_are_asked(self):
        desk = told("book carry once: main has; fix newer: never")
        self.assertEqual(desk.run("needless", "follows fix newer: never", "follows carry once: never"),
                         ["fix newer: never", "yes", desk("follows carry once: never")])
        found = History.read(desk("follows carry once: never"))
        self.assertEqual(Book.read("carry once: main has").lets(found), None)
        self.assertEqual(Book.read("carry once: never").lets(found), len(found) - 1)
        self.assertEqual(told("book cut once: main has; cut once: never; fix newer: never")("needless"), "cut once: main has; fix newer: never")
        self.assertEqual(Desk().run("needless", "follows cut once: never"), ["-", "- : cut"])

    def test_answers_have_no_newlines(self):
        desk = busy()
        for line in QUESTIONS + CHANGES:
            answer = desk(line)
            self.assertIs(type(answer), str)
            self.assertTrue(answer and "\n" not in answer, line)

    def test_refused(self):
        desk = busy()
        ahead = (desk("show"), len(desk))
        rows = [
            ("fix h", "refused NoFix"), ("carry f 5", "refused NoLine"), ("redo 9", "refused NoDay"), ("fix f", "refused Undone"),
            ("finish", "refused Nothing"), ("needs f : g ; g : f", "refused Ring"), ("needs a : b c d e f g h i", "refused TooMany"),
            ("has 3", "refused NoLine"), ("has " + "9" * 60, "refused NoLine"), ("climb 1.9 2.0 1 -", "refused NoRelease"),
            ("climb 1.0 3.0 1 -", "refused NoRelease"), ("remade 0", "refused NoDay"), ("remade 1 9", "refused NoDay"), ("rollout 0", "refused NoLine"),
            ("rollout 1 3", "refused NoLine"), ("catchup 201", "refused"), ("catchup 1 2 3 4 5 6 7 8 9 10 11 12 13", "refused"), ("kept x", "refused"),
            ("judge x", "refused"), ("forget x", "refused"), ("merge 1 to h", "refused NoFix"), ("let merge 1 to h", "no"),
            ("climb 1.0 2.0 " + "9" * 60 + " f", "1.0 2.0"), ("catchup " + "9" * 60, "refused")]
        for line, answer in rows:
            self.assertEqual(desk(line), answer, line)
        self.assertEqual((desk("show"), len(desk)), ahead)
        lines = told(*["cut"] * 6)
        self.assertEqual(lines("cut"), "refused TooMany")
        self.assertEqual(lines("let cut"), "no")
        offers = told("cut", *["offer 1"] * 60)
        self.assertEqual([offers("offer 1"), len(offers)], ["refused TooMany", 61])
        slow = told("lot f", "cut", "offer 1", "live 1", *["day 1"] * 100, "carry f 1", "offer 1", "live 1")
        self.assertEqual(slow("catchup 1 0 0 0 0 0 0 0 0 0 0 0"), "refused TooMany")


class WordsTest(EditionTest):
    def refuses_lines(self, rows):
        desk = busy()
        ahead = (desk("show"), len(desk), desk("names"))
        for line, word in rows:
            with self.subTest(line=line):
                self.refuses(BadLine(word), desk.ask, line)
                self.refuses(BadLine(word), desk, line=line)
        self.assertEqual((desk("show"), len(desk), desk("names")), ahead)

    def test_values_that_are_no_lines(self):
        desk = Desk()
        for value in any_values():
            if not isinstance(value, str):
                self.refuses(BadLine(0), desk.ask, value)
                self.refuses(BadLine(0), desk.run, "cut", value)
        self.assertEqual(len(desk), 0)

    def test_words_that_cannot_stand(self):
        self.refuses_lines([
            ("", 0), (" cut", 0), ("Cut", 0), ("cuts", 0), ("cut 1", 1), ("cut ", 1), ("fix", 1), ("fix F", 1), ("fix f f", 2), ("carry f", 2),
            ("carry f 7", 2), ("try 2 1", 2), ("night 1 2 to 2", 4), ("merge 1 to", 3), ("renew", 1), ("deed cut", 0),
            ("lot", 1), ("lot ", 1), ("lot b a", 2), ("lot - f", 2), ("lot a b c d e f g h i", 9), ("needs", 1), ("needs f", 2), ("needs f : g ;", 5),
            ("needs - -", 2), ("finish x", 1), ("book", 1), ("book -  ", 2), ("book drop once: never; carry once: never", 4), ("book drop", 2),
            ("clause", 1), ("clause drop", 2), ("clause drop once: never or", 4), ("free", 1), ("free x", 1), ("wish", 1), ("wish u", 2), ("wish U never", 1),
            ("wish abcdefghi never 0 0 : -", 1), ("wish u ever", 2), ("wish u never 0 0 : main runs F", 8), ("wish u never 3", 3), ("forget", 1),
            ("forget u x", 2), ("forget 1", 1), ("web", 1), ("web 1", 2), ("web 1 from 1 back 0 , 1 from 1 back 0", 11), ("web 1 from 7", 3), ("undo 1", 1),
            ("again again", 1), ("show x", 1), ("clauses -", 1), ("names u", 1), ("let", 1), ("let fix", 2), ("let let", 1), ("let cut 1", 2),
            ("has", 1), ("has f", 1), ("has -1", 1), ("has 01", 1), ("has 0 1", 2), ("has " + "9" * 61, 1), ("has 1" + "0" * 60, 1), ("kept", 1), ("kept u u", 2), ("judge", 1),
            ("judge 7", 1), ("follows", 1), ("follows cut", 2), ("follows cut once: never x", 4), ("needless x", 1), ("losses", 1), ("losses all", 1),
            ("losses any x", 2), ("climb", 1), ("climb 1.0", 2), ("climb 1.0 2.0", 3), ("climb 1.0 2.0 1", 4), ("climb 1 2.0 1 f", 1),
            ("climb 1.0 7.0 1 f", 2), ("climb 1.0 2.0 -1 f", 3), ("climb 1.0 2.0 1 f f", 5), ("climb 1.0 2.0 1 - f", 5), ("untried x", 1), ("meetable 1", 1),
            ("takedown 1", 1), ("rollout x", 1), ("rollout 1 x", 2), ("rollout ", 1), ("rollout 1 ", 2), ("repair 1", 1), ("due 1", 1), ("late 1", 1),
            ("remade", 1), ("remade x", 1), ("remade 1 -", 2), ("catchup", 1), ("catchup -", 1), ("catchup 1 " + "1" * 61, 2), ("cut\n", 0), ("has 0\n", 1)])

    def test_each_line_with_a_word_too_many_or_missing(self):
        desk = busy()
        for line in CHANGES + QUESTIONS + ["merge 1", "renew 1 2", "rise 1 2 to 1", "cut", "shut 1"]:
            words = line.split(" ")
            for spoilt in (line + " %", " " + line, "\n" + line, "%" + line):
                with self.assertRaises(BadLine) as found:
                    desk.ask(spoilt)
                self.assertEqual(found.exception.word, len(words) if spoilt.startswith(line) else 0, spoilt)
            for at in range(len(words)):
                with self.assertRaises(BadLine) as found:
                    desk.ask(" ".join(words[:at] + ["%"] + words[at + 1:]))
                self.assertLessEqual(found.exception.word, at)
                if at:
                    try:
                        Desk().ask(" ".join(words[:at]))
                    except BadLine as error:
                        self.assertEqual(error.word, at)


class BackTest(EditionTest):
    def test_undo_and_again(self):
        desk = busy()
        shown, many = [(desk("show"), desk("names"), str(desk.web_now()))], len(desk)
        self.assertEqual(many, 19)
        for k in range(many):
            self.assertEqual(desk("undo"), "ok")
            self.assertEqual(len(desk), many - 1 - k)
            shown.append((desk("show"), desk("names"), str(desk.web_now())))
        self.assertEqual([desk("undo"), desk == Desk()], ["nothing", True])
        for k in range(many):
            self.assertEqual(desk("again"), "ok")
            self.assertEqual((desk("show"), desk("names"), str(desk.web_now())), shown[many - 1 - k])
        self.assertEqual([desk("again"), len(desk), desk == busy()], ["nothing", many, True])

    def test_a_new_line_leaves_none(self):
        desk = busy()
        desk.run("undo", "undo")
        # What only asks, what is barred or refused, and what cannot stand, leaves what can be done again.
        desk.run(*[line for line in QUESTIONS], "fix f", "finish", "forget x", "needs f : f")
        self.refuses(BadLine(0), desk.ask, "x")
        self.assertEqual([desk("again"), len(desk)], ["ok", 18])
        self.assertEqual(desk.run("offer 1", "again", "undo", "undo", "again", "again", "again"), ["1.2 f g", "nothing", "ok", "ok", "ok", "ok", "nothing"])

    def test_undo_of_what_changes_nothing(self):
        desk = told("web -", "free cut once: never", "lot -", "book -")
        self.assertEqual([len(desk), desk == Desk()], [4, True])
        self.assertEqual(desk.run("undo", "undo", "undo", "undo", "undo"), ["ok"] * 4 + ["nothing"])

    def test_run(self):
        desk = busy()
        desk.run("undo")
        ahead = (desk("show"), len(desk), desk("names"))
        self.refuses(BadLine(1), desk.run, "cut", "lot f", "undo", "undo", "again", "offer 1", "cut 1", "x")
        self.assertEqual((desk("show"), len(desk), desk("names")), ahead)
        # What was taken back can still be done again.
        self.assertEqual([desk("again"), desk("names")], ["ok", "u"])
        self.assertEqual(desk.run(), [])
        self.assertEqual(desk.run("fix f", "cut", "has 3"), ["refused Undone", "ok", "f g"])

    def test_equality(self):
        self.assertEqual(Desk(), Desk())
        one, other = busy(), busy()
        self.assertEqual(one, other)
        for line in ("offer 1", "clause drop once: never", "forget u", "web -", "wish v never 0 0 : -", "needs -"):
            other(line)
            self.assertNotEqual(one, other)
            other("undo")
            self.assertEqual(one, other)
        for value in any_values():
            self.assertEqual(one == value, False)
            self.assertEqual(Desk() == value, isinstance(value, Desk))

    def test_what_is_told_is_apart(self):
        desk = busy()
        project, wishes = desk.project_now(), desk.wishes_now()
        self.assertEqual(project.undone, ())
        project.do(Deed.read("cut"))
        project.undo()
        wishes["x"] = wishes.pop("u")
        self.assertEqual([desk == busy(), desk("names")], [True, "u"])
        desk("undo")
        self.assertEqual(desk.project_now().undone, ())

    def test_a_desk_that_is_told_what_is_shown(self):
        for rng in randoms("desks", 25):
            desk = Desk()
            desk.run("lot f g h", "needs " + rng.choice(["-", "f : g"]))
            for _ in range(60):
                line = str(random_deed(rng, ("f", "g", "h"), 3, 4))
                if rng.random() < 0.1:
                    line = f"clause {random_clause(rng)}"
                if rng.random() < 0.1:
                    line = rng.choice(["undo", "undo", "again", "finish"])
                desk.ask(line)
            again = Desk()
            rows = desk("show").split(" / ")
            for row in rows:
                self.assertNotIn(row.split(" ")[0], ("again",))
                answer = again(row.removeprefix("deed "))
                self.assertFalse(answer.startswith(("refused", "barred")), (row, answer))
            self.assertEqual([again == desk, again("show")], [True, desk("show")])

    def test_beside_a_project(self):
        """Deeds that are told to a desk and to a project come to the same, and are refused by the same names."""
        answers = {}
        for rng in randoms("desk beside a project", 25):
            book = Book(*[random_clause(rng) for _ in range(3)])
            project = Project(Lot("f", "g"), Needs({"f": ["g"]}), book)
            desk = told("lot f g", "needs f : g", f"book {book}")
            for _ in range(60):
                deed = random_deed(rng, ("f", "g", "h"), 3, 4)
                try:
                    found = project.do(deed)
                    wanted = "ok" if found is None else " ".join(map(str, found)) if isinstance(found, tuple) else str(found)
                except Barred as error:
                    wanted = f"barred {error.clause}"
                except EditionError as error:
                    wanted = f"refused {type(error).__name__}"
                self.assertEqual(desk(str(deed)), wanted)
                answers[wanted.split(" ")[0]] = True
                self.assertEqual(desk(f"let {deed}"), "yes" if project.let(deed) else "no")
            self.assertEqual(desk.project_now(), project)
            clause = random_clause(rng)
            try:
                project.set_book(book & Book(clause))
                wanted = "ok"
            except Barred as error:
                wanted = f"barred {error.clause}"
            self.assertEqual(desk(f"clause {clause}"), wanted)
            self.assertEqual(Clause.read(str(clause)) in desk.project_now().book, Clause.read(str(clause)) in project.book)
        self.assertTrue({"ok", "barred", "refused"} <= set(answers))


if __name__ == "__main__":
    unittest.main()

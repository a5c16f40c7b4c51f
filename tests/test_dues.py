"""Dues: the words of days, and what dropped out of shut ones."""

import unittest

from editionlines.books import Book
from editionlines.dues import day_word, dropped_days, due_days, late_days
from editionlines.errors import BadHistory, NoDay
from editionlines.histories import History
from editionlines.judging import judged
from editionlines.projects import Project
from editionlines.wishes import Wish
from tools import DAY_KINDS, EditionTest, any_values, busy_history, random_deed, randoms, same

ONE = History.read("f g : fix f, cut, offer 1, live 1, day 1, day 1, day 1, shut 1, shut 2, carry g 1, offer 1, live 1, day 1")


def played_days(history):
    """The days of a history, played plainly: lists of line, what it was made with, whether shut; and what lines run."""
    main, lots, releases, live, days = set(), {}, {}, {}, []
    for deed in history:
        kind = deed.KIND
        named = [part for part in deed.named() if deed.stop() is None or kind == "merge" or part <= deed.stop()]
        if kind == "fix":
            main.add(deed.fix)
        if kind == "unfix":
            main.remove(deed.fix)
        if kind == "cut":
            lots[len(lots) + 1] = set(main)
            releases[len(lots)] = []
        if kind == "carry":
            lots[deed.line].add(deed.fix)
        if kind == "drop":
            lots[deed.line].remove(deed.fix)
        if kind == "merge":
            lots[deed.line] |= {fix for fix in main if deed.upto is None or fix <= deed.upto}
        if kind == "offer":
            releases[deed.line].append(set(lots[deed.line]))
        for number in named if kind in ("live", "rise") else ():
            live[number] = releases[number][-1]
        if kind == "down":
            del live[deed.line]
        for number in named if kind in ("day", "night") else ():
            days.append([number, set(live[number]), False])
        for number in named if kind in ("redo", "renew") else ():
            days[number - 1][1] = set(live[days[number - 1][0]])
        if kind == "shut":
            days[deed.day - 1][2] = True
    return days, live


def word_of(day, live):
    line, made, is_shut = day
    if line not in live:
        return "idle"
    return "even" if live[line] == made else "late" if is_shut else "due"


class DuesTest(EditionTest):
    def test_by_hand(self):
        self.assertEqual([day_word(ONE, day) for day in range(1, 5)], ["late", "late", "due", "even"])
        self.assertTrue(same((due_days(ONE), late_days(ONE)), ((3,), (1, 2))))
        for text, words in [("down 1", ["idle"] * 4), ("redo 3", ["late", "late", "even", "even"]),
                            ("shut 3", ["late", "late", "late", "even"]), ("shut 4", ["late", "late", "due", "even"]),
                            ("end 1", ["late", "late", "due", "even"])]:
            later = History.read(f"{ONE}, {text}")
            self.assertEqual([day_word(later, day) for day in range(1, 5)], words, text)
        # The order in which fixes came does not count, nor that two releases have the same.
        again = History.read("f g : cut, carry f 1, carry g 1, offer 1, live 1, day 1, offer 1, live 1, drop f 1, carry f 1, offer 1, live 1")
        self.assertEqual([day_word(again, 1), due_days(again)], ["even", ()])

    def test_without_days(self):
        history = History.read("f : cut, offer 1, live 1")
        self.assertTrue(same((due_days(history), late_days(history), dropped_days(history)), ((), (), ())))
        self.refuses(NoDay(1), day_word, history, 1)

    def test_beside_a_plain_walk(self):
        counts = {"idle": 0, "even": 0, "late": 0, "due": 0}
        dropped = 0
        for rng in randoms("dues", 60):
            history = busy_history(rng, lines=2, many=60, fixes=("f", "g", "h"), days=8, kinds=DAY_KINDS)
            days, live = played_days(history)
            words = [word_of(day, live) for day in days]
            self.assertEqual([day_word(history, day + 1) for day in range(len(days))], words)
            for word in words:
                counts[word] += 1
            self.assertTrue(same(due_days(history), tuple(at + 1 for at, word in enumerate(words) if word == "due")))
            self.assertTrue(same(late_days(history), tuple(at + 1 for at, word in enumerate(words) if word == "late")))
            gone = tuple((one + 1, two + 1, fix) for one, day in enumerate(days) for two, later in enumerate(days)
                         if one < two and day[2] and later[2] and day[0] == later[0] for fix in sorted(day[1] - later[1]))
            self.assertTrue(same(dropped_days(history), gone))
            dropped += len(gone)
            # Just for these the wish of the clerks is broken.
            told = {(things["D"], things["E"], things["F"]) for things in Wish.for_clerks().breaks(history.ground)}
            self.assertEqual(told, set(gone))
            self.assertEqual(Wish.for_clerks()(history.ground), not gone)
        self.assertTrue(min(counts.values()) > 20 and dropped > 20, (counts, dropped))

    def test_histories_cut_down(self):
        """What is told of days is told of kept things: with all fixes likewise, and of each fix by itself in all together."""
        many = 0
        for rng in randoms("dues cut down", 40):
            history = busy_history(rng, lines=2, many=50, fixes=("f", "g"), days=8, kinds=DAY_KINDS)
            ground = history.ground
            for lines in ((1,), (2,), (1, 2)):
                days = [day for day in range(1, ground.day_count + 1) if ground.line_of(day) in lines and rng.random() < 0.8]
                short = history.only(history.lot, lines, days)
                self.assertEqual([day_word(short, at + 1) for at in range(len(days))], [day_word(history, day) for day in days])
                told = [(days.index(day) + 1, days.index(later) + 1, fix) for day, later, fix in dropped_days(history)
                        if day in days and later in days]
                self.assertEqual(list(dropped_days(short)), told)
                for at, day in enumerate(days):
                    each = {day_word(history.only(history.lot[k:k + 1], lines, days), at + 1) for k in range(len(history.lot))}
                    word = day_word(history, day)
                    self.assertTrue(each <= {word, "even"} and word in each, (each, word))
                    many += len(each) > 1
        self.assertGreater(many, 20)

    def test_unlike_lines_and_days_that_are_not_shut(self):
        history = History.read("f : fix f, cut, offer 1, live 1, day 1, unfix f, cut, offer 2, live 2, day 2, shut 1, shut 2")
        self.assertEqual(dropped_days(history), ())
        self.assertEqual(dropped_days(History.read("f : fix f, cut, offer 1, live 1, day 1, drop f 1, offer 1, live 1, day 1, shut 1")), ())
        # The other way round nothing is dropped.
        self.assertEqual(dropped_days(History.read("f : cut, offer 1, live 1, day 1, carry f 1, offer 1, live 1, day 1, shut 1, shut 2")), ())
        # Three shut days tell each pair, fixes ascending.
        three = History.read("f g : fix g, fix f, cut, offer 1, live 1, day 1, drop f 1, offer 1, live 1, day 1, drop g 1, offer 1, "
                             "live 1, day 1, shut 3, shut 1, shut 2")
        self.assertEqual(dropped_days(three), ((1, 2, "f"), (1, 3, "f"), (1, 3, "g"), (2, 3, "g")))

    def test_under_the_clerks_book_none_is_dropped(self):
        self.assertTrue(judged(Book.for_clerks(), Wish.for_clerks()))
        many = 0
        for rng in randoms("clerks", 30):
            project = Project(busy_history(rng, lines=2, many=0).lot, book=Book.for_clerks())
            for _ in range(250):
                deed = random_deed(rng, ("f", "g"), 2, 9, DAY_KINDS + ("cut", "fix"))
                if project.ground_now.can(deed) and project.let(deed):
                    project.do(deed)
            self.assertEqual(dropped_days(project.history_now), ())
            many += sum(day.is_shut for day in project.ground_now.days)
        self.assertGreater(many, 60)

    def test_errors(self):
        for value in any_values():
            if not isinstance(value, History):
                for call in (due_days, late_days, dropped_days, lambda history: day_word(history, 1)):
                    self.refuses(BadHistory("history"), call, value)
                self.refuses(BadHistory("history"), day_word, value, value)
            if not (type(value) is int and 1 <= value <= 4):
                self.refuses(NoDay(value), day_word, ONE, value)
                self.refuses(NoDay(value), day_word, history=ONE, day=value)
        self.refuses(NoDay(5), day_word, ONE, 5)
        self.refuses(NoDay(0), day_word, ONE, 0)


if __name__ == "__main__":
    unittest.main()

"""Catchups: nights, lists, amounts, and looking at what is told of them."""

import unittest

from editionlines.catchups import Never, Over, catchup, least_amount, listed, nightly
from editionlines.deeds import Deed, Night, Renew
from editionlines.dues import due_days
from editionlines.errors import BadHistory, BadNumber, BadWeb, NoDay, TooMany
from editionlines.histories import History
from editionlines.look_catchups import shows_again, shows_catchup
from editionlines.papers import Denial, Paper
from editionlines.webs import Again, Web, again
from tools import EditionTest, any_values, randoms, same

BOTH = History.read("f : cut, offer 1, live 1, cut, offer 2, live 2, night 1 2, night 1 2, fix f, carry f 1, offer 1, live 1")
WEB = Web((2, 1, 0), (1, 1, 0))


def nights_of(lines, many, changed, more=""):
    """A history of some lines with so many nights, behind which some lines go live with another fix."""
    rows = ["cut"] * lines + [f"offer {line}, live {line}" for line in range(1, lines + 1)]
    rows += ["night " + " ".join(map(str, range(1, lines + 1)))] * many
    rows += [f"carry f {line}, offer {line}, live {line}" for line in changed]
    return History.read("f : " + ", ".join(rows) + more)


class Play:
    """The list, night by night, played plainly: days are rows of (number, line)."""

    def __init__(self, history, web, amounts):
        self.ties, self.amounts = list(web), amounts
        self.days = [(at + 1, day.line) for at, day in enumerate(history.ground.days)]
        self.up = [line for line, state in enumerate(history.ground.lines, 1) if state.live is not None]
        due = [day for day in due_days(history)]
        self.row = list(again(history, web, *due).days)
        self.night = 0

    def pass_night(self):
        amount = self.amounts[self.night % len(self.amounts)]
        done, self.row = self.row[:amount], self.row[amount:]
        for line in self.up:
            number = len(self.days) + 1
            for own, source, back in self.ties:
                ahead = [day for day, home in self.days if home == source]
                if own == line and len(ahead) > back and ahead[-1 - back] in self.row and number not in self.row:
                    self.row.append(number)
            self.days.append((number, line))
        self.night += 1
        return done

    def picture(self):
        """The row, and the last ten days of each line."""
        last = {line: [day for day, home in self.days if home == line][-10:] for line in range(1, 7)}
        return list(self.row), last


def pictures(history, web, amounts, nights):
    """The pictures behind each number of nights from 0 on."""
    play = Play(history, web, amounts)
    found = [play.picture()]
    for _ in range(nights):
        play.pass_night()
        found.append(play.picture())
    return found


def is_never(found, begin, later, step):
    """Whether two numbers of nights are a right Never, by the words of the document."""
    if not 0 <= begin < later or (later - begin) % step:
        return False
    (row, last), (on, ends) = found[begin], found[later]
    if not row or len(on) < len(row):
        return False
    for line in last:
        for back, day in enumerate(reversed(last[line])):
            if day in row:
                like = ends[line][-1 - back]
                if like not in on or on.index(like) < row.index(day):
                    return False
    return True


def samples(name, many):
    for rng in randoms(name, many):
        lines = rng.randint(1, 4)
        changed = [line for line in range(1, lines + 1) if rng.random() < 0.7]
        more = rng.choice(["", ", shut 1", ", down 1", ", day 1, shut 2"])
        if "down 1" in more and rng.random() < 0.5:
            more = ""
        history = nights_of(lines, rng.randint(1, 6), changed, more)
        web = Web(*[(rng.randint(1, lines), rng.randint(1, lines), rng.choice([0, 0, 0, 1, 1, 2, 3])) for _ in range(rng.randint(0, 5))])
        if rng.random() < 0.5:
            web = web | Web(*[(line, rng.choice([line, 1]), rng.choice([0, 1])) for line in range(1, lines + 1)])
        amounts = tuple(rng.choice([0, 1, 1, 2, 3, lines]) for _ in range(rng.choice([1, 1, 2, 3, 5, 12])))
        yield rng, history, web, amounts


class CatchupTest(EditionTest):
    def test_papers(self):
        self.assertIsInstance(Over(nights=1), Paper)
        self.assertNotIsInstance(Over(1), Denial)
        self.assertIsInstance(Never(begin=1, later=2), Denial)
        self.assertEqual([bool(Over(0)), bool(Never(0, 1))], [True, False])
        self.assertEqual((Over("x").nights, Never(1, 2).begin, Never(1, 2).later), ("x", 1, 2))
        self.assertEqual(Never(0, 1), Never(0, 1))
        self.assertNotEqual(Never(0, 1), Never(1, 0))

    def test_by_hand(self):
        self.assertEqual([listed(BOTH, WEB, (2,), night) for night in range(4)], [(1, 2, 3, 4), (3, 4, 5, 6), (5, 6, 7, 8), (7, 8, 9, 10)])
        self.assertEqual(listed(BOTH, WEB, (0,), 2), (1, 2, 3, 4, 5, 6, 7, 8))
        self.assertEqual(catchup(BOTH, WEB, (200,)), Over(1))
        self.assertEqual(nightly(BOTH, WEB, (3,), 1), (Renew(1, 2, 3), Night(1, 2)))
        self.assertEqual([str(deed) for deed in nightly(BOTH, WEB, (0, 4), 2)], ["night 1 2", "renew 1 2 3 4", "night 1 2"])
        # Days 1 and 3 are due, with a tie of its own line nothing joins that is behind them.
        alone = nights_of(1, 2, [1])
        self.assertEqual([listed(alone, Web(), (1,), night) for night in range(4)], [(1, 2), (2,), (), ()])
        self.assertEqual([catchup(alone, Web(), (1,)), catchup(alone, Web(), (0, 1)), catchup(alone, Web(), (1, 0, 0))], [Over(2), Over(4), Over(4)])
        # Day 3 is made from day 1, which is not on the list any more, day 4 from day 2.
        self.assertEqual([listed(alone, Web((1, 1, 1)), (1,), night) for night in range(3)], [(1, 2), (2,), ()])
        self.assertEqual([listed(alone, Web((1, 1, 1)), (0, 1), night) for night in range(4)], [(1, 2), (1, 2, 3), (2, 3, 4), (2, 3, 4, 5)])
        self.assertFalse(catchup(alone, Web((1, 1, 0)), (0,)))

    def test_a_list_that_is_empty(self):
        even = nights_of(2, 2, [])
        self.assertTrue(same(listed(even, WEB, (0,), 5), ()))
        self.assertEqual(catchup(even, WEB, (0,)), Over(0))
        self.assertEqual(least_amount(even, WEB, 1), 0)
        self.assertEqual(nightly(even, WEB, (3,), 2), (Night(1, 2), Night(1, 2)))
        # No line is up: nothing can be made again, no night has a deed, and days never become too many.
        down = nights_of(2, 2, [1], ", down 1, down 2")
        self.assertTrue(same(nightly(down, WEB, (3,), 1000), ()))
        self.assertEqual([listed(down, WEB, (1,), 9), catchup(down, WEB, (0,))], [(), Over(0)])
        self.assertTrue(same(nightly(History.read("f : -"), Web(), (1,), 1000), ()))

    def test_beside_nights_that_are_played(self):
        told = {True: 0, False: 0}
        for rng, history, web, amounts in samples("catchups", 60):
            play = Play(history, web, amounts)
            deeds, lines = [], play.up
            for night in range(13):
                self.assertTrue(same(listed(history, web, amounts, night), tuple(play.row)))
                if history.ground.day_count + night * len(lines) <= 200:
                    self.assertTrue(same(nightly(history, web, amounts, night), tuple(deeds)))
                else:
                    self.refuses(TooMany("days", 200), nightly, history, web, amounts, night)
                done = play.pass_night()
                deeds += [Renew(*done)] if done else []
                deeds += [Night(*lines)] if lines else []
            found = catchup(history, web, amounts)
            told[bool(found)] += 1
            self.assertTrue(shows_catchup(history, web, amounts, found))
            if found:
                rows = [row for row, _ in pictures(history, web, amounts, found.nights)]
                self.assertEqual([bool(row) for row in rows], [True] * found.nights + [False])
            else:
                rows = pictures(history, web, amounts, max(found.later, 80))
                self.assertTrue(is_never(rows, found.begin, found.later, len(amounts)))
                self.assertTrue(all(row for row, _ in rows))
        self.assertTrue(min(told.values()) > 10, told)

    def test_the_deeds_of_nights_can_be_done(self):
        for rng, history, web, amounts in samples("nights", 25):
            later = history + list(nightly(history, web, amounts, 9))
            left = [day for day in due_days(later)]
            # What is due behind the nights is on the list; what is on the list and was never due joined by ties.
            self.assertTrue(set(left) <= set(listed(history, web, amounts, 9)))

    def test_looking_at_all_small_answers(self):
        many = 0
        for rng, history, web, amounts in samples("looking", 30):
            rows = pictures(history, web, amounts, 26)
            first = next((night for night, (row, _) in enumerate(rows) if not row), None)
            for nights in range(27):
                self.assertIs(shows_catchup(history, web, amounts, Over(nights)), nights == first)
            for begin in range(-1, 27, 2):
                for later in range(-1, 27):
                    is_right = is_never(rows, begin, later, len(amounts))
                    self.assertIs(shows_catchup(history, web, amounts, Never(begin, later)), is_right)
                    many += is_right
        self.assertGreater(many, 300)

    def test_looking_at_other_values(self):
        for value in any_values():
            self.assertIs(shows_catchup(BOTH, WEB, (2,), value), same(value, Never(0, 1)))
            self.assertIs(shows_catchup(BOTH, WEB, (3,), Over(value)), same(value, 2))
            self.assertIs(shows_catchup(BOTH, WEB, (2,), Never(0, value)), type(value) is int and 0 < value <= 1000)
            self.assertIs(shows_catchup(BOTH, WEB, (2,), Never(value, 60)), type(value) is int and 0 <= value < 60)
        self.assertIs(shows_catchup(BOTH, WEB, (200,), Over(True)), False)
        self.assertIs(shows_catchup(BOTH, WEB, (2,), Never(False, 1)), False)
        self.assertIs(shows_catchup(BOTH, WEB, (2,), Never(0, True)), False)
        self.assertIs(shows_catchup(BOTH, WEB, (3,), Never(0, 1)), False)
        self.assertIs(shows_catchup(BOTH, WEB, (3,), Never(5, 6)), False)
        self.assertIs(shows_catchup(BOTH, WEB, (2,), Never(0, 1000)), True)
        self.assertIs(shows_catchup(BOTH, WEB, (2, 2), Never(0, 1)), False)
        self.assertIs(shows_catchup(BOTH, WEB, (2, 2), Never(0, 4)), True)
        self.assertIs(shows_catchup(history=BOTH, web=WEB, amounts=(2,), value=Over(3)), False)

    def test_neither(self):
        # 200 days, of which one is made again in twelve nights: the list is not empty behind 1,000, and always shorter.
        slow = nights_of(1, 200, [1])
        amounts = (1,) + (0,) * 11
        self.refuses(TooMany("nights", 1000), catchup, slow, Web(), amounts)
        self.assertEqual(len(listed(slow, Web(), amounts, 1000)), 200 - 84)
        for value in (Over(1000), Over(2400), Never(0, 12), Never(988, 1000), None):
            self.assertIs(shows_catchup(slow, Web(), amounts, value), False)
        self.assertEqual(catchup(nights_of(1, 83, [1]), Web(), amounts), Over(12 * 82 + 1))
        self.assertEqual(catchup(nights_of(1, 84, [1]), Web(), amounts), Over(12 * 83 + 1))
        self.refuses(TooMany("nights", 1000), catchup, nights_of(1, 85, [1]), Web(), amounts)
        fast = nights_of(1, 200, [1])
        self.assertEqual([catchup(fast, Web(), (1, 0, 0, 0, 0)), least_amount(fast, Web(), 1), least_amount(fast, Web(), 1000)], [Over(996), 200, 1])

    def test_the_last_night(self):
        # The list is empty behind 1,000 nights, and behind 1,001.
        self.assertEqual(catchup(nights_of(1, 200, [1]), Web(), (0, 0, 0, 0, 1)), Over(1000))
        self.assertIs(shows_catchup(nights_of(1, 200, [1]), Web(), (0, 0, 0, 0, 1), Over(1000)), True)
        self.refuses(TooMany("nights", 1000), catchup, nights_of(1, 126, [1]), Web(), (1, 0, 0, 0, 0, 0, 0, 0))
        self.assertIs(shows_catchup(nights_of(1, 126, [1]), Web(), (1, 0, 0, 0, 0, 0, 0, 0), Over(1001)), False)

    def test_the_only_answer(self):
        # One day of line 1 in nine, and one of line 2 in ten, is on the list, and amounts come round in eleven nights: all is as
        # it was behind 990 nights. The last day of line 3 is on the list, too, among the last ten of its line until night 9.
        rows = ["cut"] * 3 + [f"offer {line}, live {line}" for line in (1, 2, 3)] + ["night 1 2 3"] * 9
        rows += [f"carry f {line}, offer {line}, live {line}" for line in (1, 2, 3)] + ["night 1 2 3"]
        rows += [f"drop f {line}, offer {line}, live {line}" for line in (1, 2, 3)]
        history, web, amounts = History.read("f : " + ", ".join(rows)), Web((1, 1, 8), (2, 2, 9)), (0,) * 11
        self.assertEqual(due_days(history), (28, 29, 30))
        self.assertEqual(catchup(history, web, amounts), Never(10, 1000))
        self.assertIs(shows_catchup(history, web, amounts, Never(10, 1000)), True)
        for begin, later in ((9, 999), (0, 990), (10, 999), (10, 989), (999, 1000), (11, 1001)):
            self.assertIs(shows_catchup(history, web, amounts, Never(begin, later)), False)
        # With eight amounts it would be 360 nights, with seven 630, with twelve 180, with one 90.
        for many, nights in ((8, 360), (7, 630), (12, 180), (1, 90), (9, 90)):
            self.assertEqual(catchup(history, web, (0,) * many), Never(10, 10 + nights))
        # Another line that comes round in seven nights: neither.
        more = History.read(str(history) + ", cut, carry f 4, offer 4, live 4" + ", day 4" * 6 + ", drop f 4, offer 4, live 4, day 4, carry f 4, offer 4, live 4")
        self.refuses(TooMany("nights", 1000), catchup, more, web | Web((4, 4, 6)), amounts)

    def test_days_without_a_bound(self):
        six = nights_of(6, 30, [1, 2, 3])
        web = Web(*[(line, line, 0) for line in range(1, 7)])
        self.assertEqual(listed(six, web, (0,), 1000)[-1], 180 + 5997)
        self.refuses(TooMany("days", 200), nightly, six, web, (0,), 4)
        self.assertEqual(len(nightly(six, web, (0,), 3)), 3)
        self.assertEqual(nightly(six, web, (0,), 0), ())
        self.assertEqual(len(nightly(nights_of(1, 190, []), Web(), (0,), 10)), 10)
        self.refuses(TooMany("days", 200), nightly, nights_of(1, 190, []), Web(), (0,), 11)

    def test_least_amount(self):
        many = 0
        for rng, history, web, _ in samples("least amounts", 30):
            nights = rng.choice([1, 1, 2, 3, 7, 40, 1000])
            found = least_amount(history, web, nights)
            told = catchup(history, web, (found,))
            self.assertTrue(isinstance(told, Over) and told.nights <= nights)
            if found > 0:
                less = catchup(history, web, (found - 1,))
                self.assertTrue(not less or less.nights > nights)
                many += 1
            # Greater amounts never take longer.
            ahead = told.nights
            for amount in range(found + 1, found + 5):
                now = catchup(history, web, (amount,))
                self.assertLessEqual(now.nights, ahead)
                ahead = now.nights
        self.assertGreater(many, 15)

    def test_errors(self):
        calls = [lambda *told: listed(*told, 1), lambda *told: nightly(*told, 1), catchup, lambda *told: shows_catchup(*told, None)]
        for value in any_values():
            for call in calls:
                if not isinstance(value, History):
                    self.refuses(BadHistory("history"), call, value, None, None)
                if not isinstance(value, Web):
                    self.refuses(BadWeb("web"), call, BOTH, value, None)
                if not (isinstance(value, tuple) and value == (1,)):
                    self.refuses(BadNumber(value), call, BOTH, WEB, value)
                if not (type(value) is int and 0 <= value <= 200):
                    self.refuses(BadNumber((1, value)), call, BOTH, WEB, (1, value))
            if not isinstance(value, History):
                self.refuses(BadHistory("history"), least_amount, value, None, None)
            if not isinstance(value, Web):
                self.refuses(BadWeb("web"), least_amount, BOTH, value, None)
            if not (type(value) is int and 1 <= value <= 1000):
                self.refuses(BadNumber(value), least_amount, BOTH, WEB, value)
            if not (type(value) is int and 0 <= value <= 1000):
                self.refuses(BadNumber(value), listed, BOTH, WEB, (1,), value)
                self.refuses(BadNumber(value), nightly, BOTH, web=WEB, amounts=(1,), nights=value)
        for amounts in ((), (1,) * 13, (201,), (-1,), (1, 2, 201), [1], (True,)):
            for call in calls:
                self.refuses(BadNumber(amounts), call, BOTH, WEB, amounts)
            self.refuses(BadNumber(amounts), listed, BOTH, WEB, amounts, None)
        self.refuses(BadNumber(1001), listed, BOTH, WEB, (1,) * 12, 1001)
        self.refuses(BadNumber(0), least_amount, BOTH, WEB, 0)
        self.assertEqual(listed(BOTH, WEB, (200,) * 12, 1000), ())


class AgainTest(EditionTest):
    def test_shows_again(self):
        for rng, history, web, _ in samples("shows again", 40):
            many = history.ground.day_count
            days = tuple(sorted(rng.sample(range(1, many + 1), rng.randint(0, min(many, 3)))))
            found = again(history, web, *days)
            self.assertIs(shows_again(history, web, days, found), True)
            for paper in (Again(found.days + (many + 1,), found.left), Again(found.days[1:], found.left), Again(found.days, found.left + (1,)),
                          Again(found.left, found.days), Again(list(found.days), found.left), Again(found.days[::-1], found.left)):
                self.assertIs(shows_again(history, web, days, paper), same(paper.held(), found.held()))

    def test_kinds(self):
        one = nights_of(1, 1, [1])
        self.assertIs(shows_again(one, Web(), (1,), Again((1,), ())), True)
        self.assertIs(shows_again(one, Web(), (1,), Again((True,), ())), False)
        self.assertIs(shows_again(one, Web(), (), Again((), ())), True)
        self.assertIs(shows_again(one, Web(), days=(), value=Again((), None)), False)
        for value in any_values():
            self.assertIs(shows_again(one, Web(), (1,), value), False)
            self.assertIs(shows_again(one, Web(), (1,), Again(value, ())), same(value, (1,)))
            self.assertIs(shows_again(one, Web(), (1,), Again((1,), value)), same(value, ()))

    def test_errors(self):
        for value in any_values():
            if not isinstance(value, History):
                self.refuses(BadHistory("history"), shows_again, value, None, None, None)
            if not isinstance(value, Web):
                self.refuses(BadWeb("web"), shows_again, BOTH, value, None, None)
            if not (same(value, ()) or same(value, (1,))):
                self.refuses(BadWeb("days"), shows_again, BOTH, WEB, value, None)
        for days in ((1, 1), (2, 1), (5,), (0,), (True,), (1, None), [1]):
            self.refuses(BadWeb("days"), shows_again, BOTH, WEB, days, Again((), ()))
        self.refuses(NoDay(5), again, BOTH, WEB, 5)
        self.assertIs(shows_again(BOTH + Deed.read("shut 3"), WEB, (1,), Again((1, 2), (3,))), True)


if __name__ == "__main__":
    unittest.main()

"""Rollouts, and looking at them."""

import itertools
import unittest

from editionlines.books import Book
from editionlines.deeds import Deed, Down, Live, Rise
from editionlines.errors import BadHistory, NoLine
from editionlines.histories import History
from editionlines.look_rollouts import shows_rollout
from editionlines.numbers import Number
from editionlines.papers import Denial, Paper
from editionlines.rollouts import Rollout, Stuck, rise_stops, rollout
from editionlines.tries import settling, untried
from editionlines.ways import running
from tools import EditionTest, any_values, busy_history, randoms, same

KINDS = ("offer", "offer", "live", "down", "try", "try", "probe", "meet", "rise")
GATE = History.read("f : cut, cut, offer 1, offer 2, live 1, live 2, meet 1 2, offer 1, offer 2")


def movers_of(history):
    live = running(history)
    found = {}
    for line, state in enumerate(history.ground.lines, 1):
        if state.releases and live.get(line) != Number(line, len(state.releases) - 1):
            found[line] = Number(line, len(state.releases) - 1)
    return found


class Play:
    """The stands of a history and the steps between them, told plainly."""

    def __init__(self, history, kept):
        self.history, self.kept = history, kept
        self.new, self.old = movers_of(history), running(history)
        self.first = tuple("old" if line in self.old else "off" for line in self.new)
        self.goal = ("new",) * len(self.new)

    def live_at(self, stand):
        live = dict(self.old)
        for line, word in zip(self.new, stand):
            live.pop(line, None)
            if word != "off":
                live[line] = self.new[line] if word == "new" else self.old[line]
        return live

    def steps(self, stand):
        found = []
        for at, line in enumerate(self.new):
            others = [number for other, number in self.live_at(stand).items() if other != line]
            if stand[at] != "new" and all(self.history.were_tried(self.new[line], number) for number in others):
                found.append((Live(line), stand[:at] + ("new",) + stand[at + 1:]))
            if stand[at] == "old" and line not in self.kept:
                found.append((Down(line), stand[:at] + ("off",) + stand[at + 1:]))
        return found

    def levels(self):
        """All stands that are reached, with the least number of steps."""
        found, level = {self.first: 0}, [self.first]
        while level:
            later = []
            for stand in level:
                for _, behind in self.steps(stand):
                    if behind not in found:
                        found[behind] = found[stand] + 1
                        later.append(behind)
            level = later
        return found


def samples(name, many):
    for rng in randoms(name, many):
        history = busy_history(rng, lines=rng.randint(1, 5), many=26, kinds=KINDS)
        # Most of what may meet is tried, so that there is a rollout now and then.
        settled = rng.choice([0, 0.8, 0.95, 1])
        history = history + [deed for deed in settling(history) if rng.random() < settled]
        lines = list(range(1, history.ground.line_count + 1))
        for kept in ((), tuple(lines), (rng.choice(lines),), tuple(rng.sample(lines, rng.randint(0, len(lines))))):
            yield rng, history, kept


class RolloutTest(EditionTest):
    def test_papers(self):
        self.assertIsInstance(Rollout(deeds=()), Paper)
        self.assertIsInstance(Stuck(stands=()), Denial)
        self.assertEqual([bool(Rollout(())), bool(Stuck(()))], [True, False])
        self.assertEqual((Rollout(1).deeds, Stuck("x").stands), (1, "x"))
        self.assertNotEqual(Rollout(()), Stuck(()))
        self.assertEqual(Rollout((Live(1),)), Rollout((Live(1),)))

    def test_by_hand(self):
        tried = GATE + Deed.read("try 1 2")
        self.assertEqual(rollout(GATE, 1, 2), Stuck((("old", "old"),)))
        # Both can be taken down, but 1.1 and 2.1 were not tried.
        self.assertNotIn(("new", "new"), rollout(GATE).stands)
        self.assertEqual(rollout(tried, 2).deeds, (Down(1), Live(2), Live(1)))
        self.assertEqual(rollout(tried, 1).deeds, (Down(2), Live(1), Live(2)))
        self.assertEqual(rollout(tried, 1, 2, 1), Stuck((("old", "old"),)))
        probed = tried + Deed.read("probe 1 2")
        self.assertEqual(rollout(probed, 1, 2).deeds, (Live(1), Live(2)))

    def test_without_movers(self):
        for text in ("f : -", "- : cut", "- : cut, offer 1, live 1", "- : cut, cut, offer 1, offer 2, rise 1 2"):
            history = History.read(text)
            self.assertEqual(rollout(history), Rollout(()))
            self.assertTrue(shows_rollout(history, Rollout(())))
            self.assertFalse(shows_rollout(history, Stuck(((),))))
            self.assertFalse(shows_rollout(history, Stuck(())))
            self.assertEqual(list(rise_stops(history)), [])

    def test_other_lines_stay(self):
        # Line 1 is up with its last release, which was tried with nothing: line 2 can never go live beside it.
        history = History.read("- : cut, cut, offer 1, live 1, offer 2")
        self.assertEqual(rollout(history), Stuck((("off",),)))
        self.assertEqual(rollout(history + Deed.read("probe 2 1"), 1), Rollout((Live(2),)))
        # An ended line goes live as well.
        ended = History.read("- : cut, offer 1, end 1")
        self.assertEqual(rollout(ended, 1), Rollout((Live(1),)))

    def test_beside_a_plain_search(self):
        told = {True: 0, False: 0}
        for _, history, kept in samples("rollouts", 40):
            play = Play(history, kept)
            levels = play.levels()
            found = rollout(history, *kept)
            told[bool(found)] += len(play.new) > 1
            self.assertTrue(shows_rollout(history, found, *kept))
            if play.goal in levels:
                self.assertEqual(len(found.deeds), levels[play.goal])
                self.look_at_deeds(history, play, found.deeds)
            else:
                # Any such: it holds at least what is reached.
                self.assertEqual(list(found.stands), sorted(set(found.stands)))
                self.assertTrue(set(levels) <= set(found.stands))
        self.assertTrue(min(told.values()) > 20, told)

    def look_at_deeds(self, history, play, deeds):
        """Each deed is a step, the testers' book lets it, and no untried pair comes to be live."""
        stand, now, ahead = play.first, history, untried(history)
        for deed in deeds:
            steps = {str(one): behind for one, behind in play.steps(stand)}
            self.assertIn(str(deed), steps)
            stand = steps[str(deed)]
            if isinstance(deed, Live):
                self.assertTrue(Book.for_testers()(now, deed))
            now = now + deed
            self.assertTrue(all(pair in ahead for pair in untried(now)), (str(history), str(deed)))
        self.assertEqual(stand, play.goal)
        self.assertEqual(movers_of(now), {})

    def test_the_fact(self):
        told = {True: 0, False: 0}
        for _, history, kept in samples("rollout fact", 60):
            movers, live = movers_of(history), running(history)
            others = [number for line, number in live.items() if line not in movers]
            right = all(history.were_tried(one, other) for one, other in itertools.combinations(movers.values(), 2))
            right = right and all(history.were_tried(one, other) for one in movers.values() for other in others)
            self.assertEqual(bool(rollout(history)), right)
            told[right] += len(movers) > 1
        self.assertTrue(min(told.values()) > 10, told)

    def test_rise_stops(self):
        for _, history, _ in samples("rises", 25):
            movers = list(movers_of(history))
            found = list(rise_stops(history))
            self.assertEqual([line for line, _ in found], movers)
            for line, pairs in found:
                upto = None if line == movers[-1] else line
                self.assertTrue(same(pairs, untried(history + Rise(*movers, upto=upto))))

    def test_looking_at_other_deeds(self):
        tried = GATE + Deed.read("try 1 2")
        rows = [
            ((Down(1), Live(2), Live(1)), (), True), ((Down(1), Down(2), Live(2), Live(1)), (), True),
            ((Down(1), Live(2), Live(1)), (1,), False), ((Down(2), Live(1), Live(2)), (1,), True),
            ((Live(1), Live(2)), (), False), ((Down(1), Live(2)), (), False), ((), (), False),
            ((Down(1), Down(1), Live(2), Live(1)), (), False), ((Down(1), Live(2), Live(1), Down(2)), (), False),
            ((Down(1), Live(2), Live(2), Live(1)), (), False), ([Down(1), Live(2), Live(1)], (), False),
            ((Down(1), Live(2), "live 1"), (), False), ((Down(1), Live(2), None), (), False),
            ((Down(1), Live(2), Rise(1)), (), False), ((Down(1), Live(2), Live(3)), (), False)]
        for deeds, kept, is_right in rows:
            self.assertIs(shows_rollout(tried, Rollout(deeds), *kept), is_right, (list(map(str, deeds)), kept))
        for value in any_values():
            self.assertIs(shows_rollout(tried, value), False)
            self.assertIs(shows_rollout(tried, Rollout(value)), False)
            self.assertIs(shows_rollout(tried, Stuck(value)), False)
            self.assertIs(shows_rollout(tried, Rollout((Down(1), Live(2), value))), False)

    def test_looking_at_other_stands(self):
        stuck = rollout(GATE)
        self.assertTrue(shows_rollout(GATE, Stuck(stuck.stands)))
        for at in range(len(stuck.stands)):
            fewer = stuck.stands[:at] + stuck.stands[at + 1:]
            self.assertIs(shows_rollout(GATE, Stuck(fewer)), False)
        more = [row for row in itertools.product(("new", "off", "old"), repeat=2) if row not in stuck.stands]
        for row in more:
            # A stand that no step leads to may be told, too, if its own steps stay within; the goal may not.
            stands = tuple(sorted(stuck.stands + (row,)))
            play = Play(GATE, ())
            is_right = row != play.goal and all(behind in stands for _, behind in play.steps(row))
            self.assertIs(shows_rollout(GATE, Stuck(stands)), is_right)
        for stands in (stuck.stands[::-1], stuck.stands + (stuck.stands[-1],), list(stuck.stands), (), None,
                       (("old", "old", "old"),), (("old",),), (["old", "old"],), (("old", "odd"),), ((1, 2),), ("old", "old"),
                       tuple(map(list, stuck.stands)), ((("old",), "old"),)):
            self.assertIs(shows_rollout(GATE, Stuck(stands)), False)
        for odd in (("old",), ("old", "old", "old"), ("old", "odd"), ("old", 1), ["old", "old"], "old", None, ("new",), ("a", "b")):
            self.assertIs(shows_rollout(GATE, Stuck(stuck.stands + (odd,))), False)
            self.assertIs(shows_rollout(GATE, Stuck((odd,) + stuck.stands)), False)
        self.assertIs(shows_rollout(GATE, Stuck((("old", "old"),)), 1, 2), True)
        self.assertIs(shows_rollout(GATE, Stuck((("old", "old"),)), 1), False)
        self.assertIs(shows_rollout(GATE, Stuck((("old", [1]),)), 1, 2), False)

    def test_errors(self):
        for value in any_values():
            if not isinstance(value, History):
                for call in (rollout, rise_stops, lambda history: shows_rollout(history, None)):
                    self.refuses(BadHistory("history"), call, value)
                self.refuses(BadHistory("history"), rollout, value, 9)
            if not (type(value) is int and 1 <= value <= 2):
                self.refuses(NoLine(value), rollout, GATE, value)
                self.refuses(NoLine(value), rollout, GATE, 2, 1, value, None)
                self.refuses(NoLine(value), shows_rollout, GATE, None, value)
        self.refuses(NoLine(3), rollout, GATE, 1, 3, 0)


if __name__ == "__main__":
    unittest.main()

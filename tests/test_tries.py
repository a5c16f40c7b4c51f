"""Tries: what is untried, what may meet, and what settles it."""

import unittest

from editionlines.deeds import Deed, Meet, Probe, Try
from editionlines.errors import BadHistory
from editionlines.histories import History
from editionlines.lots import Lot
from editionlines.numbers import Number
from editionlines.tries import may_meet, settling, untried
from editionlines.wishes import Wish
from tools import EditionTest, any_values, busy_history, random_history, randoms, same


def played(history):
    """What the deeds of a history come to, played plainly: lists of live and last numbers of lines, and tried pairs."""
    live, last, tried = {}, {}, set()
    for deed in history:
        kind = deed.KIND
        lines = [part for part in deed.named() if isinstance(part, int)]
        if kind == "offer":
            last[deed.line] = last.get(deed.line, -1) + 1
        if kind in ("live", "rise"):
            for line in lines:
                if deed.stop() is None or line <= deed.stop():
                    live[line] = last[line]
        if kind == "down":
            del live[deed.line]
        if kind in ("try", "probe", "meet"):
            one = (deed.line, (live if kind == "meet" else last)[deed.line])
            other = (deed.mate, (last if kind == "try" else live)[deed.mate])
            tried.add(tuple(sorted([one, other])))
    return live, last, tried


def texts(pairs):
    return [f"{one} {other}" for one, other in pairs]


def wanted(history, is_shown):
    """The texts of the pairs that must be told, by the plain play."""
    live, last, tried = played(history)
    places = set(live.items()) | (set(last.items()) if is_shown else set())
    pairs = sorted((one, other) for one in places for other in places if one[0] < other[0])
    return [f"{one[0]}.{one[1]} {other[0]}.{other[1]}" for one, other in pairs if (one, other) not in tried]


def histories():
    for rng in randoms("tries", 60):
        yield busy_history(rng, lines=rng.randint(1, 6), many=30)
    for rng in randoms("tries of any kind", 20):
        yield random_history(rng, lines=4, many=40)


class TriesTest(EditionTest):
    def test_by_hand(self):
        history = History.read("- : cut, cut, cut, offer 1, offer 2, offer 3, live 1, live 2")
        self.assertEqual(untried(history), ((Number(1, 0), Number(2, 0)),))
        self.assertEqual(texts(may_meet(history)), ["1.0 2.0", "1.0 3.0", "2.0 3.0"])
        self.assertEqual(untried(history + Meet(1, 2)), ())
        # Both live and last: tried as last ones.
        self.assertEqual(list(settling(history)), [Try(1, 2), Try(1, 3), Try(2, 3)])
        later = history + [Deed.read("offer 1"), Deed.read("offer 2"), Deed.read("end 1")]
        self.assertEqual(texts(may_meet(later)), ["1.0 2.0", "1.0 2.1", "1.0 3.0", "1.1 2.0", "1.1 2.1", "1.1 3.0", "2.0 3.0",
                                                  "2.1 3.0"])
        self.assertEqual([str(deed) for deed in settling(later)], [
            "meet 1 2", "probe 2 1", "probe 3 1", "probe 1 2", "try 1 2", "try 1 3", "probe 3 2", "try 2 3"])
        # A release that is neither live nor the last one is not shown.
        gone = later + [Deed.read("live 2"), Deed.read("down 1")]
        self.assertEqual(texts(may_meet(gone)), ["1.1 2.1", "1.1 3.0", "2.1 3.0"])
        self.assertEqual(untried(gone), ())

    def test_without_lines_or_releases(self):
        for text in ("f : -", "- : cut, cut", "- : cut, offer 1, live 1, cut"):
            history = History.read(text)
            self.assertTrue(same((untried(history), may_meet(history), list(settling(history))), ((), (), [])))

    def test_as_played(self):
        many = 0
        for history in histories():
            self.assertEqual(texts(untried(history)), wanted(history, False))
            self.assertEqual(texts(may_meet(history)), wanted(history, True))
            many += len(untried(history))
            for one, other in may_meet(history):
                self.assertTrue(one.line < other.line and not history.were_tried(one, other))
        self.assertGreater(many, 20)

    def test_settling(self):
        kinds = {"try": 0, "probe": 0, "meet": 0}
        for history in histories():
            now = history
            for (one, other), deed in zip(may_meet(history), list(settling(history)), strict=True):
                live, last, _ = played(history)
                are_last = last[one.line] == one.at and last[other.line] == other.at
                are_live = live.get(one.line) == one.at and live.get(other.line) == other.at
                self.assertEqual(deed.KIND, "try" if are_last else "meet" if are_live else "probe")
                kinds[deed.KIND] += 1
                self.assertFalse(now.were_tried(one, other))
                now = now + deed
                self.assertTrue(now.were_tried(one, other))
                if isinstance(deed, Probe):
                    self.assertEqual(last[deed.line], one.at if deed.line == one.line else other.at)
            self.assertEqual((may_meet(now), untried(now)), ((), ()))
        self.assertTrue(all(many > 5 for many in kinds.values()), kinds)

    def test_the_wish_of_the_testers(self):
        for history in histories():
            for ground, ahead in zip(history.grounds(), range(len(history) + 1)):
                if ahead % 5 == 0:
                    pairs = [(things["A"], things["B"]) for things in Wish.for_testers().breaks(ground)]
                    self.assertEqual(pairs, [(one.line, other.line) for one, other in untried(history.ahead(ahead))])

    def test_errors(self):
        for value in any_values():
            if not isinstance(value, History):
                for call in (untried, may_meet, settling):
                    self.refuses(BadHistory("history"), call, value)
                    self.refuses(BadHistory("history"), call, history=value)

    def test_a_generator_goes_by_what_is_then(self):
        history = History.read("- : cut, cut, offer 1, offer 2")
        made = settling(history)
        self.assertEqual(list(made), [Try(1, 2)])
        self.assertEqual(untried(history=history), ())
        self.assertEqual(history.lot, Lot())


if __name__ == "__main__":
    unittest.main()

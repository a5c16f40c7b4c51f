"""Ways, and what is lost on them."""

import itertools
import unittest

from editionlines.errors import BadHistory, BadWay
from editionlines.histories import History
from editionlines.lots import Lot
from editionlines.numbers import Number
from editionlines.ways import bared, losses, next_losses, running, ways
from editionlines.wishes import Wish
from tools import EditionTest, any_values, random_history, randoms


def told(history, rule):
    return [f"{start} {goal}" for start, goal in ways(history, rule)]


def plain_ways(history, rule):
    """The ways of a rule, by a look at each moment."""
    numbers = [(line, at) for line, state in enumerate(history.ground.lines, 1) for at in range(len(state.releases))]
    found = set()
    if rule == "any":
        found = {(one, other) for one in numbers for other in numbers if one < other}
    grounds = list(history.grounds())
    for k, ground in enumerate(grounds):
        there = [(line, at) for line, state in enumerate(ground.lines, 1) for at in range(len(state.releases))]
        if rule == "last":
            found |= {(one, other) for one in there for other in there
                      if one < other and other[1] == len(ground.lines[other[0] - 1].releases) - 1}
        if rule == "live":
            live = [(line, state.live) for line, state in enumerate(ground.lines, 1) if state.live is not None]
            found |= {(one, other) for one in live for other in live if one[0] < other[0]}
            if k > 0 and history[k - 1].KIND in ("live", "rise"):
                before = [(line, state.live) for line, state in enumerate(grounds[k - 1].lines, 1) if state.live is not None]
                found |= {(one, other) for one in before for other in live if one[0] == other[0] and one != other}
    return sorted(found)


class WaysTest(EditionTest):
    def test_by_hand(self):
        history = History.read("f : cut, offer 1, offer 1, cut, offer 2, offer 1")
        self.assertEqual(told(history, "any"), ["1.0 1.1", "1.0 1.2", "1.0 2.0", "1.1 1.2", "1.1 2.0", "1.2 2.0"])
        self.assertEqual(told(history, "last"), ["1.0 1.1", "1.0 1.2", "1.0 2.0", "1.1 1.2", "1.1 2.0", "1.2 2.0"])
        self.assertEqual(told(history, "live"), [])
        # 2.0 is no longer the last one when 1.1 is offered.
        later = History.read("f : cut, offer 1, cut, offer 2, offer 2, offer 1")
        self.assertEqual(told(later, "last"), ["1.0 1.1", "1.0 2.0", "1.0 2.1", "1.1 2.1", "2.0 2.1"])
        self.assertEqual(list(ways(history=later, rule="live")), [])
        for rule in ("any", "last", "live"):
            self.assertEqual(list(ways(History(Lot()), rule)), [])

    def test_live(self):
        rows = [
            # In the place of the first one, and not behind a down.
            ("f : cut, offer 1, live 1, offer 1, live 1", ["1.0 1.1"]),
            ("f : cut, offer 1, live 1, offer 1, rise 1", ["1.0 1.1"]),
            ("f : cut, offer 1, live 1, offer 1, down 1, live 1", []),
            ("f : cut, offer 1, live 1, offer 1, offer 1, live 1", ["1.0 1.2"]),
            # Both live at some moment.
            ("f : cut, cut, offer 1, offer 2, live 1, down 1, live 2", []),
            ("f : cut, cut, offer 1, offer 2, live 2, live 1, down 2", ["1.0 2.0"]),
            ("f : cut, cut, offer 1, offer 2, rise 1 2", ["1.0 2.0"]),
            # A deed on many is one moment: the old one of 1 is not live beside the new one of 2.
            ("f : cut, cut, offer 1, live 1, offer 1, offer 2, rise 1 2", ["1.0 1.1", "1.1 2.0"]),
            ("f : cut, cut, offer 1, live 1, offer 1, offer 2, rise 1 2 to 1", ["1.0 1.1"]),
            ("f : cut, cut, offer 1, live 1, offer 1, offer 2, rise 1 2 to 1, live 2", ["1.0 1.1", "1.1 2.0"]),
            ("f : cut, cut, offer 1, live 1, offer 1, offer 2, live 2, live 1", ["1.0 1.1", "1.0 2.0", "1.1 2.0"]),
            ("f : cut, cut, offer 1, offer 2, live 2, live 1, end 1, end 2", ["1.0 2.0"]),
        ]
        for text, expected in rows:
            self.assertEqual(told(History.read(text), "live"), expected, text)

    def test_beside_each_moment(self):
        many = 0
        for rng in randoms("ways", 60):
            history = random_history(rng, lines=4, many=50)
            for rule in ("any", "last", "live"):
                found = [((start.line, start.at), (goal.line, goal.at)) for start, goal in ways(history, rule)]
                self.assertEqual(found, plain_ways(history, rule))
                many += len(found)
                lost = [(start, goal, fix) for start, goal in ways(history, rule)
                        for fix in sorted(set(history.release(start).lot) - set(history.release(goal).lot))]
                self.assertEqual(list(losses(history, rule)), lost)
            self.assertTrue(all(start < goal for start, goal in ways(history, "live")))
        self.assertGreater(many, 500)

    def test_errors(self):
        history = History.read("f : cut, offer 1")
        for value in any_values():
            if type(value) is not History:
                for call in (ways, losses):
                    self.refuses(BadHistory("history"), call, value, value)
                for call in (running, next_losses, bared):
                    self.refuses(BadHistory("history"), call, value)
            self.refuses(BadWay(value), ways, history, value)
            self.refuses(BadWay(value), losses, history, value)
        self.refuses(BadWay("Last"), losses, history, "Last")

    def test_losses(self):
        history = History.read("f g h : fix f, fix g, cut, offer 1, unfix f, cut, offer 2, drop g 2, offer 2, drop g 1, offer 1")
        self.assertEqual([f"{start} {goal} {fix}" for start, goal, fix in losses(history, "any")], [
            "1.0 1.1 g", "1.0 2.0 f", "1.0 2.1 f", "1.0 2.1 g", "1.1 2.0 f", "1.1 2.1 f", "2.0 2.1 g"])
        self.assertEqual([f"{start} {goal} {fix}" for start, goal, fix in losses(history=history, rule="last")], [
            "1.0 1.1 g", "1.0 2.0 f", "1.0 2.1 f", "1.0 2.1 g", "1.1 2.1 f", "2.0 2.1 g"])


class NowTest(EditionTest):
    def test_by_hand(self):
        history = History.read("f g : fix f, fix g, cut, cut, cut, cut, offer 3, offer 1, offer 2, rise 2 3, live 1, drop f 1, drop f 3, "
                               "drop g 2, end 2, offer 3, live 3, drop g 4")
        self.assertEqual(running(history), {1: Number(1, 0), 2: Number(2, 0), 3: Number(3, 1)})
        self.assertEqual(list(running(history)), [1, 2, 3])
        self.assertEqual([f"{number} {line} {fix}" for number, line, fix in next_losses(history)],
                         ["1.0 1 f", "1.0 3 f", "1.0 4 g", "2.0 3 f", "2.0 4 g", "3.1 4 g"])
        self.assertEqual([f"{number} {other} {fix}" for number, other, fix in bared(history)], ["1.0 3.1 f", "2.0 3.1 f"])
        self.assertEqual((running(History(Lot())), next_losses(History(Lot())), bared(History(Lot()))), ({}, (), ()))
        found = running(history)
        found.clear()
        self.assertEqual(len(running(history)), 3)

    def test_beside_the_wish(self):
        """Just for those that are told Wish.for_users() is broken now."""
        many = 0
        for rng in randoms("bared", 80):
            history = random_history(rng, lines=4, many=50)
            live = running(history)
            broken = list(Wish.for_users().breaks(history.ground))
            expected = sorted(((things["A"], things["B"], things["F"]) for things in broken))
            found = [(number.line, other.line, fix) for number, other, fix in bared(history)]
            self.assertEqual(found, expected)
            for number, other, fix in bared(history):
                self.assertEqual((live[number.line], live[other.line]), (number, other))
                self.assertTrue(fix in history.release(number) and fix not in history.release(other))
            self.assertEqual(not found, Wish.for_users()(history.ground))
            many += len(found)
        self.assertGreater(many, 30)

    def test_next_losses_beside_a_plain_look(self):
        for rng in randoms("next", 40):
            history = random_history(rng, lines=4, many=50)
            ground = history.ground
            expected = [(number, line, fix) for number, line in itertools.product(running(history).values(),
                                                                                  range(1, ground.line_count + 1))
                        for fix in history.lot if line >= number.line and ground.lines[line - 1].is_open
                        and fix in history.release(number) and fix not in ground.lines[line - 1].lot]
            self.assertEqual(list(next_losses(history)), expected)


if __name__ == "__main__":
    unittest.main()

"""Takedowns, and looking at them."""

import itertools
import unittest

from editionlines.errors import BadHistory, BadPrice
from editionlines.histories import History
from editionlines.look_takedowns import shows_takedown
from editionlines.papers import Denial, Paper
from editionlines.takedowns import Takedown, at_once, takedown
from editionlines.tries import untried
from editionlines.ways import running
from tools import EditionTest, any_values, busy_history, randoms, same

TWO = History.read("- : cut, cut, cut, offer 1, offer 2, offer 3, rise 1 2 3, meet 2 3")


def subsets(things):
    return [row for many in range(len(things) + 1) for row in itertools.combinations(things, many)]


def is_tried(history, lines):
    """Whether each two live releases of some lines were tried."""
    live = running(history)
    return all(history.were_tried(live[one], live[other]) for one, other in itertools.combinations(lines, 2))


def best(history, prices):
    """The lines to take down and the price, by a trial of all sets."""
    up = list(running(history))
    told = []
    for downs in subsets(up):
        if is_tried(history, [line for line in up if line not in downs]):
            told.append((sum((prices or {}).get(line, 1) for line in downs), len(downs), downs))
    price, _, downs = min(told)
    return downs, price


class TakedownTest(EditionTest):
    def test_papers(self):
        self.assertIsInstance(Takedown(lines=(1,), price=2), Paper)
        self.assertNotIsInstance(Takedown((), 0), Denial)
        self.assertTrue(Takedown((), 0))
        rows = [1]
        paper = Takedown(rows, {"a": 1})
        rows.append(2)
        self.assertEqual((paper.lines, paper.price), ([1], {"a": 1}))
        self.assertEqual(Takedown((1,), 2), Takedown((True,), 2))
        self.assertNotEqual(Takedown((1,), 2), ((1,), 2))

    def test_by_hand(self):
        self.assertEqual(list(at_once(TWO)), [(1,), (2, 3)])
        self.assertEqual(takedown(TWO), Takedown((1,), 1))
        self.assertEqual(takedown(TWO, {1: 2}), Takedown((1,), 2))
        # Of equal prices the fewest lines, though two others cost as much.
        self.assertEqual(takedown(TWO, {1: 3}), Takedown((2, 3), 2))
        self.assertEqual(takedown(TWO, {1: 0}), Takedown((1,), 0))
        self.assertEqual(takedown(TWO, {2: 0, 3: 0}), Takedown((2, 3), 0))
        self.assertEqual(takedown(TWO, {1: 10 ** 12, 2: 10 ** 12, 3: 10 ** 12 - 1}), Takedown((1,), 10 ** 12))
        # Of as many lines the lesser tuple.
        pair = History.read("- : cut, cut, offer 1, offer 2, rise 1 2")
        self.assertEqual([takedown(pair).lines, takedown(pair, {1: 0, 2: 0}).lines], [(1,), (1,)])
        self.assertEqual(takedown(pair, {2: 0}).lines, (2,))
        # Nothing that costs nothing is taken down without need.
        self.assertEqual(takedown(History.read("- : cut, offer 1, live 1"), {1: 0}), Takedown((), 0))

    def test_without_lines_that_are_up(self):
        for text in ("f : -", "- : cut, cut, offer 1, offer 2"):
            history = History.read(text)
            self.assertEqual(list(at_once(history)), [()])
            self.assertTrue(same(takedown(history).held(), ((), 0)))

    def test_beside_all_sets(self):
        rises = 0
        for rng in randoms("takedowns", 80):
            history = busy_history(rng, lines=rng.randint(2, 6), many=30, kinds=("offer", "live", "live", "rise", "meet", "down"))
            lines = history.ground.line_count
            up = list(running(history))
            right = [row for row in subsets(up) if is_tried(history, row)]
            most = sorted(row for row in right if not any(set(row) < set(other) for other in right))
            self.assertEqual(list(at_once(history)), most)
            for prices in (None, {}, {line: 0 for line in up}, {line: 7 for line in range(1, lines + 1)},
                           {line: rng.choice([0, 1, 2, 3, 10 ** 12]) for line in range(1, lines + 1) if rng.random() < 0.7}):
                ahead = dict(prices) if prices is not None else None
                found = takedown(history, prices)
                self.assertTrue(same((found.lines, found.price), best(history, prices)), (found, str(history), prices))
                self.assertEqual(prices, ahead)
                self.assertTrue(shows_takedown(history, found, prices))
                self.assertTrue(shows_takedown(history, value=Takedown(found.lines, found.price), prices=prices))
                left = [line for line in up if line not in found.lines]
                self.assertTrue(is_tried(history, left))
            rises += len(untried(history)) > 1
        self.assertGreater(rises, 10)

    def test_bent_papers(self):
        for prices in (None, {1: 2, 2: 2}, {1: 0}):
            found = takedown(TWO, prices)
            for lines in subsets((1, 2, 3)) + [(3, 2), (1, 1), (True,), [1], (4,), None, 1, "1", ("1",), (1, None)]:
                for price in (0, 1, 2, 3, True, False, None, "1", (1,), -1):
                    is_right = same(lines, found.lines) and same(price, found.price)
                    self.assertIs(shows_takedown(TWO, Takedown(lines, price), prices), is_right, (lines, price))
        for value in any_values():
            self.assertIs(shows_takedown(TWO, value), False)
            self.assertIs(shows_takedown(TWO, Takedown(value, 1)), same(value, (1,)))
            self.assertIs(shows_takedown(TWO, Takedown((1,), value)), same(value, 1))

    def test_errors(self):
        for call in (at_once, takedown, lambda history: shows_takedown(history, None)):
            for value in any_values():
                if not isinstance(value, History):
                    self.refuses(BadHistory("history"), call, value)
        self.refuses(BadHistory("history"), takedown, None, 7)
        self.refuses(BadHistory("history"), shows_takedown, None, None, {9: 9})
        for value in any_values():
            for call in (lambda prices: takedown(TWO, prices), lambda prices: shows_takedown(TWO, None, prices)):
                if value is None or value == {}:
                    call(value)
                elif not isinstance(value, dict):
                    self.refuses(BadPrice(value), call, value)
                if not (type(value) is int and 0 <= value <= 10 ** 12):
                    self.refuses(BadPrice(value), call, {1: 1, 2: value, 9: 9})

    def test_errors_key_by_key(self):
        for prices, told in [
                ({0: 1}, 0), ({4: 1}, 4), ({"1": 1}, "1"), ({True: 1}, True), ({(1,): 1}, (1,)), ({None: 1}, None),
                ({1: -1}, -1), ({1: 10 ** 12 + 1}, 10 ** 12 + 1), ({3: None}, None), ({3: True}, True), ({2: 1, 1: "x", 9: 1}, "x"),
                ({2: 1, 9: "x", 1: -1}, 9), ({-1: -2}, -1)]:
            self.refuses(BadPrice(told), takedown, TWO, prices)
            self.refuses(BadPrice(told), shows_takedown, TWO, None, prices=prices)
        self.assertEqual(takedown(TWO, {1: 10 ** 12, 2: 0}).price, 1)
        # A price of a line that is not up is let, and plays no part.
        self.assertEqual(takedown(History.read("- : cut"), {1: 5}), Takedown((), 0))


if __name__ == "__main__":
    unittest.main()

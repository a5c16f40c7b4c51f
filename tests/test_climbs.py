"""Climbs, and looking at them."""

import unittest

from editionlines.climbs import Climb, NoClimb, climb, shows_climb, stuck
from editionlines.errors import BadHistory, BadLot, BadWay, NoRelease
from editionlines.histories import History
from editionlines.lots import Lot
from editionlines.numbers import Number
from editionlines.papers import Denial, Paper
from editionlines.ways import running
from tools import EditionTest, any_values, random_history, randoms

THREE = History.read("f g : fix f, cut, offer 1, live 1, unfix f, cut, offer 2, live 2, fix f, fix g, cut, offer 3, offer 1, live 1")


def numbers(text):
    return tuple(Number.read(word) for word in text.split())


def all_numbers(history):
    return [Number(line, at) for line, state in enumerate(history.ground.lines, 1) for at in range(len(state.releases))]


def is_step(history, one, other, lot, stride, live):
    """Whether a step leads from one release to another one."""
    if not one < other or abs(other.line - one.line) > stride:
        return False
    if live and running(history).get(other.line) != other:
        return False
    return not any(fix in lot and fix in history.release(one) and fix not in history.release(other) for fix in history.lot)


def fewest(history, start, goal, lot, stride, live):
    """The fewest steps of a climb, told by a plain search; None if there is none; and all that are reached."""
    found, level, many = [start], [start], 0
    steps = {str(start): 0}
    while level:
        many += 1
        later = []
        for one in level:
            for other in all_numbers(history):
                if str(other) not in steps and is_step(history, one, other, lot, stride, live):
                    steps[str(other)] = many
                    later.append(other)
        found += later
        level = later
    return steps.get(str(goal)), found


class ClimbTest(EditionTest):
    def test_papers(self):
        self.assertIsInstance(Climb(numbers=()), Paper)
        self.assertIsInstance(NoClimb(numbers=()), Denial)
        self.assertEqual([bool(Climb(())), bool(NoClimb(()))], [True, False])
        self.assertEqual((Climb(1).numbers, NoClimb(2).numbers), (1, 2))
        self.assertNotEqual(Climb(()), NoClimb(()))
        self.assertEqual(Climb(numbers("1.0 2.0")), Climb(numbers("1.0 2.0")))

    def test_by_hand(self):
        lot = Lot("f")
        self.assertEqual(climb(THREE, *numbers("1.0 3.0"), lot, 2), Climb(numbers("1.0 3.0")))
        self.assertEqual(climb(THREE, *numbers("1.0 1.1"), lot, 0), Climb(numbers("1.0 1.1")))
        self.assertEqual(climb(THREE, *numbers("1.0 1.0"), lot, 0), Climb(numbers("1.0")))
        self.assertIsInstance(climb(THREE, *numbers("1.1 1.0"), lot, 9), NoClimb)
        self.assertIsInstance(climb(THREE, *numbers("1.0 3.0"), lot, 1), NoClimb)
        self.assertEqual(climb(THREE, *numbers("1.0 3.0"), Lot(), 1), Climb(numbers("1.0 2.0 3.0")))
        self.assertEqual(climb(THREE, *numbers("2.0 3.0"), lot, 1), Climb(numbers("2.0 3.0")))
        # With live each release behind the first one is live now; line 3 has none.
        self.assertIsInstance(climb(THREE, *numbers("1.0 3.0"), lot, 2, True), NoClimb)
        self.assertEqual(climb(THREE, *numbers("1.0 2.0"), Lot("g"), 1, live=True), Climb(numbers("1.0 2.0")))
        self.assertEqual(climb(THREE, *numbers("3.0 3.0"), lot, 0, True), Climb(numbers("3.0")))
        # A lot of any fixes is let.
        self.assertEqual(climb(THREE, *numbers("1.0 2.0"), Lot("x", "y"), 1), Climb(numbers("1.0 2.0")))
        found = climb(history=THREE, start=Number(1, 0), goal=Number(2, 0), lot=lot, stride=1, live=False)
        self.assertEqual({str(number) for number in found.numbers}, {"1.0", "1.1"})

    def test_beside_a_plain_search(self):
        seen = {}
        for rng in randoms("climbs", 60):
            history = random_history(rng, lines=4, many=60)
            every = all_numbers(history)
            if len(every) < 3:
                continue
            for _ in range(12):
                start, goal = rng.choice(every), rng.choice(every)
                lot, stride, live = Lot(*rng.sample("fghx", rng.randint(0, 3))), rng.randint(0, 3), rng.random() < 0.4
                found = climb(history, start, goal, lot, stride, live)
                least, closed = fewest(history, start, goal, lot, stride, live)
                self.assertIs(shows_climb(history, start, goal, lot, stride, found, live), True)
                seen[type(found).__name__, least, live] = True
                if least is None:
                    self.assertIsInstance(found, NoClimb)
                    self.assertIsInstance(found.numbers, tuple)
                    self.assertTrue(shows_climb(history, start, goal, lot, stride, NoClimb(tuple(closed)), live))
                else:
                    self.assertIsInstance(found, Climb)
                    self.assertEqual(len(found.numbers), least + 1)
                    self.assertEqual((found.numbers[0], found.numbers[-1]), (start, goal))
                    for one, other in zip(found.numbers, found.numbers[1:]):
                        self.assertTrue(is_step(history, one, other, lot, stride, live))
        self.assertIn(("Climb", 2, False), seen)
        self.assertIn(("Climb", 1, True), seen)
        self.assertIn(("NoClimb", None, True), seen)

    def test_errors_in_their_order(self):
        one, lot = Number(1, 0), Lot("f")
        calls = [lambda *args: climb(*args), lambda history, start, goal, lot, stride, live: shows_climb(
            history, start, goal, lot, stride, "no", live)]
        for call in calls:
            for value in any_values():
                if type(value) is not History:
                    self.refuses(BadHistory("history"), call, value, value, value, value, value, value)
                if type(value) is not Number:
                    self.refuses(NoRelease(value), call, THREE, value, "no", "no", "no", "no")
                    self.refuses(NoRelease(value), call, THREE, one, value, "no", "no", "no")
                if type(value) is not Lot:
                    self.refuses(BadLot("lot"), call, THREE, one, one, value, "no", "no")
                if not (type(value) is int and value >= 0):
                    self.refuses(BadWay(value), call, THREE, one, one, lot, value, "no")
                if not isinstance(value, bool):
                    self.refuses(BadWay(value), call, THREE, one, one, lot, 0, value)
            for number in numbers("1.2 2.1 4.0"):
                self.refuses(NoRelease(number), call, THREE, number, None, None, None, None)
                self.refuses(NoRelease(number), call, THREE, one, number, None, None, None)
            self.refuses(BadWay(-1), call, THREE, one, one, lot, -1, "no")
        for value in any_values():
            if type(value) is not History:
                self.refuses(BadHistory("history"), stuck, value, value, value)
            if type(value) is not Lot:
                self.refuses(BadLot("lot"), stuck, THREE, value, "no")
            if not (type(value) is int and value >= 0):
                self.refuses(BadWay(value), stuck, THREE, lot, value)
        self.assertTrue(climb(THREE, one, one, lot, 10 ** 39))


class StuckTest(EditionTest):
    def test_by_hand(self):
        self.assertEqual(stuck(THREE, Lot("f"), 5), numbers("1.1"))
        self.assertEqual(stuck(THREE, Lot("g"), 1), ())
        self.assertEqual(stuck(THREE, Lot(), 0), numbers("1.1"))
        self.assertEqual(stuck(history=History(Lot()), lot=Lot(), stride=0), ())
        self.assertEqual(stuck(History.read("f : cut, offer 1, live 1"), Lot("f"), 0), ())
        far = History.read("f : cut, cut, cut, offer 1, offer 2, offer 3, live 1, live 3")
        self.assertEqual([stuck(far, Lot(), stride) for stride in (0, 1, 2)], [numbers("1.0"), numbers("1.0"), ()])
        self.assertEqual(stuck(far + History.read("f : cut, cut, cut, offer 1, offer 2, live 2").deeds[5:], Lot(), 1), ())

    def test_beside_climbs(self):
        many = 0
        for rng in randoms("stuck", 60):
            history = random_history(rng, lines=4, many=60)
            live = list(running(history).values())
            for stride in (0, 1, 2, 3):
                lot = Lot(*rng.sample("fgh", rng.randint(0, 2)))
                expected = tuple(number for number in live if not climb(history, number, live[-1], lot, stride, True))
                self.assertEqual(stuck(history, lot, stride), expected)
                many += len(expected)
        self.assertGreater(many, 40)


class ShowsTest(EditionTest):
    def test_climbs(self):
        def look(start, goal, lot, stride, row, live=False):
            return shows_climb(THREE, Number.read(start), Number.read(goal), Lot(*lot), stride, Climb(numbers(row)), live)

        self.assertIs(look("1.0", "3.0", "f", 2, "1.0 3.0"), True)
        # Not only a shortest one.
        self.assertTrue(look("1.0", "3.0", "f", 2, "1.0 1.1 3.0"))
        self.assertTrue(look("1.0", "3.0", "", 1, "1.0 1.1 2.0 3.0"))
        self.assertTrue(look("2.0", "2.0", "f", 0, "2.0"))
        for start, goal, lot, stride, row in (
                ("1.0", "3.0", "f", 1, "1.0 3.0"), ("1.0", "3.0", "f", 2, "1.0 2.0 3.0"), ("1.0", "3.0", "", 1, "1.0 2.0"),
                ("1.0", "3.0", "", 1, "2.0 3.0"), ("1.0", "3.0", "", 1, "1.0 2.0 2.0 3.0"), ("1.0", "3.0", "", 1, ""),
                ("1.0", "3.0", "", 1, "1.0 2.0 1.1 3.0"), ("2.0", "2.0", "f", 0, "2.0 2.0"), ("1.0", "3.0", "", 5, "1.0 2.1 3.0"),
                ("1.0", "3.0", "", 5, "1.0 4.0 3.0"), ("2.0", "1.0", "", 5, "2.0 1.0")):
            self.assertIs(look(start, goal, lot, stride, row), False, row)
        self.assertFalse(look("1.0", "3.0", "f", 2, "1.0 3.0", True))
        self.assertTrue(look("1.0", "2.0", "g", 1, "1.0 1.1 2.0", True))
        self.assertTrue(look("1.0", "2.0", "g", 1, "1.0 2.0", True))

    def test_no_climbs(self):
        def look(start, goal, lot, stride, row, live=False):
            return shows_climb(THREE, Number.read(start), Number.read(goal), Lot(*lot), stride, NoClimb(numbers(row)), live)

        self.assertIs(look("1.0", "2.0", "f", 1, "1.0 1.1"), True)
        self.assertTrue(look("1.0", "2.0", "f", 1, "1.1 1.0 1.1"))
        self.assertTrue(look("2.0", "1.0", "f", 1, "2.0 3.0"))
        self.assertTrue(look("3.0", "1.0", "", 1, "3.0 2.0"))
        self.assertTrue(look("1.1", "3.0", "", 2, "1.1 2.0", True))
        for start, goal, lot, stride, row in (
                ("1.0", "2.0", "f", 1, "1.0"), ("1.0", "2.0", "f", 1, "1.1"), ("1.0", "2.0", "f", 1, ""),
                ("1.0", "2.0", "f", 1, "1.0 1.1 2.0"), ("1.0", "2.0", "f", 2, "1.0 1.1"), ("1.0", "2.0", "", 1, "1.0 1.1"),
                ("2.0", "2.0", "f", 1, "2.0"), ("2.0", "1.0", "f", 1, "2.0"), ("2.0", "1.0", "f", 1, "2.0 3.0 4.0"),
                ("1.0", "2.0", "f", 1, "1.0 1.1 1.2")):
            self.assertIs(look(start, goal, lot, stride, row), False, row)
        self.assertFalse(look("1.1", "3.0", "", 2, "1.1", True))

    def test_bent_papers(self):
        for rng in randoms("bent climbs", 30):
            history = random_history(rng, lines=3, many=50)
            every = all_numbers(history)
            if len(every) < 4:
                continue
            for _ in range(10):
                start, goal = rng.choice(every), rng.choice(every)
                told = (history, start, goal, Lot(*rng.sample("fgh", 1)), rng.randint(0, 2))
                row = tuple(rng.sample(every, rng.randint(1, len(every))))
                up = tuple(sorted(row, key=lambda number: (number.line, number.at)))
                is_climb = up[0] == start and up[-1] == goal and all(
                    is_step(history, one, other, told[3], told[4], False) for one, other in zip(up, up[1:]))
                self.assertIs(shows_climb(*told, Climb(up)), is_climb)
                is_none = start in row and goal not in row and all(
                    other in row for one in row for other in every if is_step(history, one, other, told[3], told[4], False))
                self.assertIs(shows_climb(*told, NoClimb(row)), is_none)
                found = climb(*told)
                self.assertFalse(shows_climb(*told, type(found)(list(found.numbers))))
                other = NoClimb if found else Climb
                self.assertFalse(shows_climb(*told, other(found.numbers)))

    def test_any_values(self):
        for value in any_values():
            for goal in (Number(1, 0), Number(2, 0), Number(3, 0)):
                told = (THREE, Number(1, 0), goal, Lot("f"), 1)
                self.assertIs(shows_climb(*told, value), False)
                for kind in (Climb, NoClimb):
                    self.assertIs(shows_climb(*told, kind(value)), False)
                    is_right = kind is Climb and isinstance(value, Number) and value == goal
                    self.assertIs(shows_climb(*told, kind((value,))), is_right)


if __name__ == "__main__":
    unittest.main()

"""Mendings and repairs, and looking at them."""

import itertools
import unittest

from editionlines.books import Book
from editionlines.deeds import Carry, Deed, Down, Live, Meet, Offer, OfTwo, Redo
from editionlines.dues import due_days
from editionlines.errors import BadHistory, BadPlace, BadPrice, EditionError, NoLine
from editionlines.histories import History
from editionlines.look_repair import shows_mending, shows_repair
from editionlines.lots import Lot
from editionlines.needs import Needs
from editionlines.papers import Denial, Paper
from editionlines.prices import Prices
from editionlines.repair import Mending, NoRepair, Repair, Unmended, least_repair, mending, mendings, price_of, steps_of
from editionlines.tries import untried
from editionlines.ways import bared, running
from tools import EditionTest, any_values, busy_history, randoms, same

KINDS = ("offer", "offer", "offer", "live", "live", "live", "rise", "carry", "carry", "carry", "drop", "meet", "probe", "day", "night", "shut",
         "redo")
NEEDS = [None, Needs({"f": ["g"]}), Needs({"f": ["g"], "g": ["h"]}), Needs({"h": ["f", "g"]}), Needs({"f": ["x"], "x": ["h"]}), Needs({"f": ["h"]})]
ALL_BOOKS = Book.for_users() & Book.for_testers() & Book.for_needs()
TWO = History.read("f g : fix f, cut, offer 1, live 1, day 1, unfix f, cut, offer 2, live 2, day 2, meet 1 2, carry g 2")


def subsets(things):
    return sorted(row for many in range(len(things) + 1) for row in itertools.combinations(things, many))


def closed(lot, fixes, needs):
    """The fixes, and all of the lot that they need, also through others of the lot."""
    found = set(fixes)
    while True:
        more = {other for fix in found for other in needs[fix] if other in lot} - found
        if not more:
            return found
        found |= more


def reckoned(history, stays):
    """What [14] tells of the lines that stay, as the attributes of a Mending or an Unmended."""
    ground, lot, needs = history.ground, history.lot, history.needs
    live = {line: set(history.release(number).lot) for line, number in running(history).items()}
    last, carried, renewed = {}, [], []
    for line in stays:
        state = ground.lines[line - 1]
        wanted = closed(lot, live[line].union(*[last[elder] for elder in last]), needs)
        if not wanted <= live[line]:
            if not state.is_open or len(state.releases) == 60:
                return (tuple(stays), tuple(Lot(*last[elder]) for elder in last), line)
            wanted = closed(lot, wanted | set(state.lot), needs)
            carried += [(fix, line) for fix in sorted(wanted - set(state.lot))]
            renewed.append(line)
        last[line] = wanted
    tests = []
    for one, other in itertools.combinations(stays, 2):
        is_there = one not in renewed and other not in renewed
        if not (is_there and history.were_tried(running(history)[one], running(history)[other])):
            tests.append((one, other))
    redone = [at + 1 for at, day in enumerate(ground.days) if not day.is_shut and day.line in last and set(day.lot) != last[day.line]]
    downs = tuple(line for line in live if line not in stays)
    return (tuple(stays), tuple(Lot(*last[line]) for line in stays), downs, tuple(carried), tuple(renewed), tuple(tests), tuple(redone))


def is_right_now(history):
    """Whether nothing is bared and each two live releases were tried."""
    if bared(history) or untried(history):
        return False
    for number in running(history).values():
        lot = history.release(number).lot
        if any(other in history.lot and other not in lot for fix in lot for other in history.needs[fix]):
            return False
    return True


def is_all_right(history, deeds):
    """Whether deeds can be done behind a history, and what the Fact of [14] tells of them is so."""
    now, is_live = history, False
    ran = {line: history.release(number).lot for line, number in running(history).items()}
    stays = set(ran) - {deed.line for deed in deeds if isinstance(deed, Down) and Live(deed.line) not in deeds}
    try:
        for deed in deeds:
            now = now + deed
            is_live = is_live or isinstance(deed, Live)
            if is_live and not is_right_now(now):
                return False
    except EditionError:
        return False
    live = {line: now.release(number).lot for line, number in running(now).items()}
    return is_right_now(now) and not due_days(now) and all(line in live and ran[line] <= live[line] for line in stays)


def samples(name, many, lines=4):
    for rng in randoms(name, many):
        kinds = KINDS + rng.choice([(), (), ("end", "down")])
        yield rng, busy_history(rng, lines=rng.randint(2, lines), many=40, fixes=("f", "g", "h"), days=6, kinds=kinds, needs=rng.choice(NEEDS))


def random_prices(rng):
    some = [0, 1, 1, 2, 3, None, 10 ** 12]
    special = {text: rng.choice(some) for text in ("carry f 2", "carry g 3", "meet 1 2", "meet 2 3", "redo 1", "redo 2", "down 1", "down 2")
               if rng.random() < 0.3}
    return Prices(*[rng.choice(some) for _ in range(4)], special)


def plain_price(told, prices):
    if isinstance(told, Unmended):
        return None
    deeds = [Down(line) for line in told.downs] + [Carry(*pair) for pair in told.carried]
    deeds += [Meet(*pair) for pair in told.tests] + [Redo(day) for day in told.redone]
    each = [prices(deed) for deed in deeds]
    return None if None in each else sum(each)


class MendingTest(EditionTest):
    def test_papers(self):
        paper = Mending(stays=1, lots=2, downs=3, carried=4, renewed=5, tests=6, redone=7)
        self.assertEqual([paper.stays, paper.lots, paper.downs, paper.carried, paper.renewed, paper.tests, paper.redone], [1, 2, 3, 4, 5, 6, 7])
        self.assertIsInstance(paper, Paper)
        self.assertTrue(paper)
        self.assertIsInstance(Unmended(stays=1, lots=2, line=3), Denial)
        self.assertFalse(Unmended(1, 2, 3))
        self.assertIsInstance(NoRepair(rows=()), Denial)
        repair = Repair(price=1, mending=paper, rows=())
        self.assertEqual([repair.price, repair.mending, repair.rows, bool(repair), bool(NoRepair(()))], [1, paper, (), True, False])
        self.assertEqual((Unmended(1, 2, 3).line, Unmended(1, 2, 3).lots), (3, 2))

    def test_by_hand(self):
        both = mending(TWO, [1, 2])
        self.assertEqual(both, Mending((1, 2), (Lot("f"), Lot("f", "g")), (), (("f", 2),), (2,), ((1, 2),), (2,)))
        self.assertEqual(mending(TWO, ()), Mending((), (), (1, 2), (), (), (), ()))
        self.assertEqual(mending(TWO, (2,)), Mending((2,), (Lot(),), (1,), (), (), (), ()))
        # One carried fix brings along what the line has, which newer lines then want.
        text = ("f g h : fix f, cut, offer 1, live 1, unfix f, cut, carry g 2, offer 2, drop g 2, live 2, carry h 2, cut, carry f 3, carry g 3, "
                "offer 3, live 3")
        three = mending(History.read(text), (1, 2, 3))
        self.assertEqual([str(lot) for lot in three.lots], ["f", "f g h", "f g h"])
        self.assertEqual((three.carried, three.renewed), ((("f", 2), ("g", 2), ("h", 3)), (2, 3)))
        # Needs out of the lot play no part, also not as what leads to others.
        far = History.read("f h : fix f, cut, offer 1, live 1", Needs({"f": ["x"], "x": ["h"]}))
        self.assertEqual(mending(far, (1,)), Mending((1,), (Lot("f"),), (), (), (), (), ()))
        near = History.read("f g h : fix f, cut, offer 1, live 1, day 1", Needs({"f": ["g"], "g": ["h"]}))
        self.assertEqual(mending(near, (1,)), Mending((1,), (Lot("f", "g", "h"),), (), (("g", 1), ("h", 1)), (1,), (), (1,)))

    def test_ended_lines_and_full_ones(self):
        ended = TWO + Deed.read("end 2")
        self.assertEqual(mending(ended, (1, 2)), Unmended((1, 2), (Lot("f"),), 2))
        self.assertTrue(mending(ended, (2,)))
        full = TWO + [Offer(2)] * 59
        self.assertEqual(len(full.ground.lines[1].releases), 60)
        self.assertEqual(mending(full, (1, 2)), Unmended((1, 2), (Lot("f"),), 2))
        self.assertTrue(mending(full, (2,)))
        self.assertTrue(mending(TWO + [Offer(2)] * 58, (1, 2)))
        # The eldest one that cannot be renewed is told, with what those ahead of it run.
        text = "f : cut, carry f 1, offer 1, cut, offer 2, cut, offer 3, cut, offer 4, rise 1 2 3 4, end 3, end 4"
        self.assertEqual(mending(History.read(text), (1, 2, 3, 4)), Unmended((1, 2, 3, 4), (Lot("f"), Lot("f")), 3))
        self.assertEqual(mending(History.read(text), (1, 4)), Unmended((1, 4), (Lot("f"),), 4))

    def test_beside_a_plain_reckoning(self):
        told = {Mending: 0, Unmended: 0}
        parts = [0] * 7
        for _, history in samples("mendings", 60, 5):
            found = list(mendings(history))
            self.assertEqual([one.stays for one in found], subsets(list(running(history))))
            for one in found:
                wanted = reckoned(history, one.stays)
                self.assertIs(type(one), Mending if len(wanted) == 7 else Unmended)
                self.assertTrue(same(one.held(), wanted), (one, wanted))
                self.assertEqual(mending(history, list(one.stays)), one)
                self.assertTrue(shows_mending(history, one))
                told[type(one)] += 1
                if isinstance(one, Mending):
                    parts = [many + len(part) for many, part in zip(parts, one.held())]
        self.assertTrue(min(told.values()) > 20 and min(parts) > 50, (told, parts))

    def test_without_lines_that_are_up(self):
        for text in ("f : -", "f : cut, offer 1"):
            history = History.read(text)
            nothing = Mending((), (), (), (), (), (), ())
            self.assertEqual(list(mendings(history)), [nothing])
            self.assertEqual(least_repair(history, Prices(None, None, None, None)), Repair(0, nothing, (((), 0),)))
            self.assertEqual(list(steps_of(nothing)), [])

    def test_of_the_history_cut_down(self):
        for rng, history in samples("mendings cut down", 40):
            for one in list(mendings(history)):
                lines = list(one.stays)
                days = [day for day in range(1, history.ground.day_count + 1) if history.ground.line_of(day) in lines]
                less = mending(history.only(history.lot, lines, days), list(range(1, len(lines) + 1)))
                self.assertIs(type(less), type(one))
                new = {line: at + 1 for at, line in enumerate(lines)}
                self.assertEqual(less.lots, one.lots)
                if isinstance(one, Unmended):
                    self.assertEqual(less.line, new[one.line])
                else:
                    self.assertEqual(less.downs, ())
                    self.assertEqual(less.carried, tuple((fix, new[line]) for fix, line in one.carried))
                    self.assertEqual(less.renewed, tuple(new[line] for line in one.renewed))
                    self.assertEqual(less.tests, tuple((new[a], new[b]) for a, b in one.tests))
                    self.assertEqual(less.redone, tuple(days.index(day) + 1 for day in one.redone))

    def test_errors(self):
        for value in any_values():
            if not isinstance(value, History):
                for call in (lambda history: mending(history, None), mendings, lambda history: least_repair(history, None),
                             lambda history: shows_mending(history, None), lambda history: shows_repair(history, None, None)):
                    self.refuses(BadHistory("history"), call, value)
            if not isinstance(value, (list, tuple)):
                self.refuses(BadPlace("lines"), mending, TWO, value)
            if not (type(value) is int and 1 <= value <= 2):
                self.refuses(NoLine(value), mending, TWO, [value])
                self.refuses(NoLine(value), mending, TWO, (1, value))
            if not isinstance(value, Mending):
                self.refuses(BadPlace("mending"), steps_of, value)
                if not isinstance(value, Unmended):
                    self.refuses(BadPlace("mending"), price_of, value, None)
            if not isinstance(value, Prices):
                self.refuses(BadPrice("prices"), price_of, mending(TWO, (1,)), value)
                self.refuses(BadPrice("prices"), price_of, Unmended((1,), (), 1), value)
                self.refuses(BadPrice("prices"), least_repair, TWO, value)
                self.refuses(BadPrice("prices"), shows_repair, TWO, value, None)
        for stays, told in [((1, 1), 1), ((2, 1), 1), ((1, 3), 3), ((0,), 0), ((True,), True), ((2, None, 9), None), ([1, 2, 2], 2)]:
            self.refuses(NoLine(told), mending, TWO, stays)
        self.refuses(NoLine(9), mending, TWO + Down(1), (1, 9))
        self.refuses(BadPlace("up"), mending, TWO + Down(1), (1, 2))
        self.refuses(BadPlace("up"), mending, TWO + Deed.read("cut"), stays=[3])


class StepsTest(EditionTest):
    def test_by_hand(self):
        text = ("f g : fix f, cut, cut, cut, cut, offer 1, unfix f, carry g 4, drop f 2, offer 2, drop f 3, offer 3, offer 4, rise 1 2 3 4, "
                "day 3, day 1, day 2")
        told = mending(History.read(text), (1, 2, 3))
        self.assertEqual([str(deed) for deed in steps_of(told)], [
            "down 4", "carry f 2", "offer 2", "carry f 3", "offer 3", "probe 2 1", "probe 3 1", "try 2 3", "down 2", "down 3", "live 2", "live 3",
            "redo 1", "redo 3"])
        self.assertEqual([str(deed) for deed in steps_of(mending(History.read(text), (1, 4)))], ["down 2", "down 3", "meet 1 4"])
        # The renewed one is the first one of a probe, also if it is the elder one.
        elder = History.read("f g : cut, carry f 1, offer 1, live 1, cut, carry f 2, carry g 2, offer 2, live 2", Needs({"f": ["g"]}))
        self.assertEqual([str(deed) for deed in steps_of(mending(elder, (1, 2)))], ["carry g 1", "offer 1", "probe 1 2", "down 1", "live 1"])

    def test_played(self):
        kinds, least = {}, 0
        for rng, history in samples("played mendings", 60):
            for one in list(mendings(history)):
                if isinstance(one, Mending):
                    deeds = list(steps_of(one))
                    self.assertTrue(is_all_right(history, deeds), (str(history), list(map(str, deeds))))
                    now = history
                    for deed in deeds:
                        self.assertTrue(ALL_BOOKS(now, deed), (str(now), str(deed)))
                        now = now + deed
                        kinds[deed.KIND] = kinds.get(deed.KIND, 0) + 1
                    self.assertEqual([now.release(number).lot for number in running(now).values()], list(one.lots))
                    self.assertEqual(tuple(running(now)), one.stays)
                    for at, deed in enumerate(deeds):
                        if isinstance(deed, (Carry, OfTwo, Redo)):
                            self.assertFalse(is_all_right(history, deeds[:at] + deeds[at + 1:]), (str(history), list(map(str, deeds)), at))
            found = least_repair(history, Prices(1, 1, 1, 1))
            deeds = list(steps_of(found.mending))
            for at, line in enumerate(found.mending.downs):
                self.assertFalse(is_all_right(history, deeds[:at] + deeds[at + 1:]))
                least += 1
        self.assertTrue(all(kinds.get(kind, 0) > 10 for kind in ("down", "carry", "offer", "try", "probe", "meet", "live", "redo")), kinds)
        self.assertGreater(least, 5)


class RepairTest(EditionTest):
    def test_by_hand(self):
        rows = (((), 4), ((1,), 2), ((1, 2), 3), ((2,), 2))
        self.assertEqual(least_repair(TWO, Prices(down=2)), Repair(2, mending(TWO, (1,)), rows))
        # Of equal prices most lines stay.
        self.assertEqual(least_repair(TWO, Prices(down=3)).mending.stays, (1, 2))
        self.assertEqual(least_repair(TWO, Prices(0, 0, 0, 0)).mending.stays, (1, 2))
        self.assertEqual(least_repair(TWO, Prices(special={"down 1": 0})).mending.stays, (2,))
        self.assertEqual(least_repair(TWO, Prices(None, special={"down 2": 5})).rows, (((), None), ((1,), 5), ((1, 2), None), ((2,), None)))
        none = least_repair(TWO, Prices(None))
        self.assertEqual(none, NoRepair((((), None), ((1,), None), ((1, 2), None), ((2,), None))))
        self.assertFalse(none)

    def test_beside_all_sets(self):
        ties = nones = 0
        for rng, history in samples("repairs", 80, 5):
            prices = random_prices(rng)
            told = [reckoned(history, stays) for stays in subsets(list(running(history)))]
            each = [plain_price(Mending(*one) if len(one) == 7 else Unmended(*one), prices) for one in told]
            rows = tuple((one[0], price) for one, price in zip(told, each))
            found = least_repair(history, prices)
            self.assertTrue(same(found.rows, rows))
            self.assertTrue(shows_repair(history, prices, found))
            for one, price in zip(list(mendings(history)), each):
                self.assertTrue(same(price_of(one, prices), price))
            priced = [(price, -len(one[0]), one[0]) for one, price in zip(told, each) if price is not None]
            if not priced:
                self.assertIsInstance(found, NoRepair)
                nones += 1
                continue
            best = min(priced)
            ties += sum(row[0] == best[0] for row in priced) > 1
            self.assertTrue(same((found.price, found.mending.stays), (best[0], best[2])))
            self.assertEqual(found.mending, mending(history, best[2]))
        self.assertTrue(ties > 5 and nones > 5, (ties, nones))

    def test_looking_at_bent_mendings(self):
        one = mending(TWO, (1, 2))
        for at, part in enumerate(one.held()):
            for value in any_values() + [part + part, part[1:], list(part), (True, 2), (1, True), ((1, 2, 3),), (("f", 2), ("g", 2)), (("f", True),)]:
                told = list(one.held())
                told[at] = value
                bent = Mending(*told)
                self.assertIs(shows_mending(TWO, bent), same(value, part), (at, value))
        self.assertIs(shows_mending(TWO, Mending(*mending(TWO, (1,)).held())), True)
        ended = TWO + Deed.read("end 2")
        out = mending(ended, (1, 2))
        self.assertIs(shows_mending(ended, out), True)
        self.assertIs(shows_mending(TWO, out), False)
        self.assertIs(shows_mending(ended, one), False)
        for at, part in enumerate(out.held()):
            for value in any_values() + [(1,), (2, 1), (Lot("f"), Lot("f")), [Lot("f")], 3]:
                told = list(out.held())
                told[at] = value
                self.assertIs(shows_mending(ended, Unmended(*told)), same(value, part), (at, value))
        for value in any_values():
            self.assertIs(shows_mending(TWO, value), False)
        for stays in ((1, 3), (2, 1), (1, 1), (True, 2), [1, 2], (1.5,), ("1",)):
            self.assertIs(shows_mending(TWO, Unmended(stays, (), 1)), False)
        self.assertIs(shows_mending(TWO + Down(1), one), False)

    def test_looking_at_bent_repairs(self):
        prices = Prices(down=2)
        right = least_repair(TWO, prices)
        one = History.read("f : cut, offer 1, live 1, day 1, carry f 1, offer 1, live 1")
        self.assertTrue(shows_repair(one, Prices(), least_repair(one, Prices())))
        self.assertEqual(least_repair(one, Prices()).price, 1)
        self.assertIs(shows_repair(one, Prices(), Repair(True, *least_repair(one, Prices()).held()[1:])), False)
        self.assertIs(shows_repair(one, Prices(), Repair(1, Mending((True,), (Lot("f"),), (), (), (), (), (1,)), least_repair(one, Prices()).rows)), False)
        self.assertIs(shows_repair(one, Prices(), Repair(1, mending(one, (1,)), (((), None), ((1,), True)))), False)
        self.assertIs(shows_repair(one, Prices(), Repair(1, mending(one, (1,)), (((), None), ((True,), 1)))), False)
        for value in any_values() + [right.mending, NoRepair(right.rows)]:
            self.assertIs(shows_repair(TWO, prices, value), False)
            self.assertIs(shows_repair(TWO, prices, Repair(value, right.mending, right.rows)), same(value, 2))
            self.assertIs(shows_repair(TWO, prices, Repair(2, value, right.rows)), value == right.mending)
            self.assertIs(shows_repair(TWO, prices, Repair(2, right.mending, value)), False)
        # As cheap, but not the one that counts.
        self.assertIs(shows_repair(TWO, prices, Repair(2, mending(TWO, (2,)), right.rows)), False)
        self.assertIs(shows_repair(TWO, prices, Repair(2, right.mending, right.rows[::-1])), False)
        self.assertIs(shows_repair(TWO, prices, Repair(2, right.mending, right.rows[1:])), False)
        self.assertIs(shows_repair(TWO, Prices(), right), False)
        none = least_repair(TWO, Prices(None))
        self.assertIs(shows_repair(TWO, Prices(None), none), True)
        self.assertIs(shows_repair(TWO, Prices(None), NoRepair(list(none.rows))), False)
        self.assertIs(shows_repair(TWO, Prices(None), NoRepair(none.rows[:-1])), False)
        self.assertIs(shows_repair(TWO, Prices(None), Repair(None, right.mending, none.rows)), False)


if __name__ == "__main__":
    unittest.main()

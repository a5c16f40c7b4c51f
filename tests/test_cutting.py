"""Stops, what is left behind them, and few things."""

import itertools
import unittest

from editionlines.cutting import few_things, rest_of, stops_of
from editionlines.deeds import Deed
from editionlines.errors import BadDeed, BadHistory, BadLot, BadNumber
from editionlines.histories import History
from editionlines.lots import Lot
from tools import EditionTest, any_values, random_history, randoms

PLAIN = ["fix f", "unfix f", "carry f 1", "drop f 1", "cut", "end 1", "offer 1", "try 1 2", "probe 2 1", "meet 1 2", "live 1",
         "down 1", "day 1", "redo 1", "shut 1"]


def stops(text, lot=Lot("f", "g", "h")):
    return [str(deed) for deed in stops_of(Deed.read(text), lot)]


class RestTest(EditionTest):
    def test_rests(self):
        rows = [
            ("merge 1 to f", "merge 1"), ("merge 2 to zz", "merge 2"), ("rise 1 3 to 1", "rise 3"),
            ("rise 1 2 4 6 to 2", "rise 4 6"), ("night 1 2 3 to 1", "night 2 3"), ("night 1 2 to 1", "night 2"),
            ("renew 2 5 9 to 5", "renew 9"), ("renew 2 5 9 to 2", "renew 5 9"),
        ]
        for text, rest in rows:
            self.assertEqual(rest_of(Deed.read(text)), Deed.read(rest), text)
            self.assertEqual(rest_of(deed=Deed.read(text)).stop(), None)
        for text in [*PLAIN, "merge 1", "rise 1", "rise 1 2", "night 1 2 3", "renew 4"]:
            self.assertIsNone(rest_of(Deed.read(text)), text)

    def test_errors(self):
        for value in any_values():
            if not isinstance(value, Deed):
                self.refuses(BadDeed(None), rest_of, value)
                self.refuses(BadDeed(None), stops_of, value, None)
            if type(value) is not Lot:
                self.refuses(BadLot("lot"), stops_of, Deed.read("cut"), value)
                self.refuses(BadLot("lot"), stops_of, Deed.read("rise 1 2"), value)


class StopsTest(EditionTest):
    def test_merges(self):
        self.assertEqual(stops("merge 1"), ["merge 1 to f", "merge 1 to g"])
        self.assertEqual(stops("merge 1", Lot("f")), [])
        self.assertEqual(stops("merge 1", Lot()), [])
        self.assertEqual(stops("merge 2 to h"), ["merge 2 to f", "merge 2 to g"])
        self.assertEqual(stops("merge 2 to g"), ["merge 2 to f"])
        self.assertEqual(stops("merge 2 to f"), [])
        # A stop that is no fix of the lot.
        self.assertEqual(stops("merge 1 to gg"), ["merge 1 to f", "merge 1 to g"])
        self.assertEqual(stops("merge 1 to fa"), ["merge 1 to f"])
        self.assertEqual(stops("merge 1 to a"), [])
        self.assertEqual(stops("merge 1 to z"), ["merge 1 to f", "merge 1 to g"])

    def test_numbers(self):
        self.assertEqual(stops("rise 1 3 4"), ["rise 1 3 4 to 1", "rise 1 3 4 to 3"])
        self.assertEqual(stops("rise 1 3 4 to 3"), ["rise 1 3 4 to 1"])
        self.assertEqual(stops("rise 1 3 4 to 1"), [])
        self.assertEqual(stops("night 2"), [])
        self.assertEqual(stops("night 2 5"), ["night 2 5 to 2"])
        self.assertEqual(stops("renew 1 20 200"), ["renew 1 20 200 to 1", "renew 1 20 200 to 20"])
        self.assertEqual(stops("renew 1 20 200", Lot()), ["renew 1 20 200 to 1", "renew 1 20 200 to 20"])
        for text in PLAIN:
            self.assertEqual(stops(text), [], text)

    def test_a_stop_parts_a_deed(self):
        seen = {}
        for rng in randoms("stops", 60):
            history = random_history(rng, many=rng.randint(10, 40))
            ground = history.ground
            lines = list(range(1, ground.line_count + 1))
            texts = [f"merge {line}" for line in lines]
            for many in (2, 3):
                for some in itertools.combinations(lines, many):
                    texts += [f"{kind} {' '.join(map(str, some))}" for kind in ("rise", "night")]
                for some in itertools.combinations(range(1, ground.day_count + 1), many):
                    texts.append(f"renew {' '.join(map(str, some))}")
            for deed in map(Deed.read, texts):
                if not ground.can(deed):
                    continue
                for stopped in stops_of(deed, history.lot):
                    self.assertEqual(ground.after(stopped).after(rest_of(stopped)), ground.after(deed))
                    # What is left behind an earlier stop is stopped where the deed is, or done.
                    for earlier in stops_of(stopped, history.lot):
                        self.assertEqual(ground.after(earlier).after(rest_of(earlier)), ground.after(deed))
                    seen[deed.KIND] = True
        self.assertEqual(sorted(seen), ["merge", "night", "renew", "rise"])


class FewThingsTest(EditionTest):
    def test_by_hand(self):
        went = History.read("f g : cut, cut, offer 1, live 1, offer 2, live 2, night 1 2, day 1")
        found = [(str(lot), lines, days) for lot, lines, days in few_things(went, 0, 1, 1)]
        self.assertEqual(found, [("-", (1,), (1,)), ("-", (1,), (3,)), ("-", (2,), (2,))])
        found = [(str(lot), lines, days) for lot, lines, days in few_things(went, 2, 2, 2)]
        self.assertEqual(found, [("f g", (1, 2), (1, 2)), ("f g", (1, 2), (1, 3)), ("f g", (1, 2), (2, 3))])
        self.assertEqual(list(few_things(went, 0, 0, 0)), [(Lot(), (), ())])
        self.assertEqual(list(few_things(went, 3, 0, 0)), [])
        self.assertEqual(list(few_things(went, 0, 3, 0)), [])
        self.assertEqual(list(few_things(went, 0, 0, 1)), [])
        self.assertEqual(list(few_things(History(Lot()), 0, 0, 0)), [(Lot(), (), ())])
        self.assertEqual(list(few_things(history=went, fixes=1, lines=0, days=0)), [(Lot("f"), (), ()), (Lot("g"), (), ())])

    def test_beside_combinations(self):
        for rng in randoms("few", 8):
            history = random_history(rng, lines=4, many=40)
            ground = history.ground
            for fixes, lines, days in itertools.product(range(4), repeat=3):
                expected = []
                for names in itertools.combinations(history.lot.fixes, fixes):
                    for some in itertools.combinations(range(1, ground.line_count + 1), lines):
                        theirs = [day for day in range(1, ground.day_count + 1) if ground.line_of(day) in some]
                        expected += [(Lot(*names), some, row) for row in itertools.combinations(theirs, days)]
                found = list(few_things(history, fixes, lines, days))
                self.assertEqual(found, expected)
                for lot, some, row in found[:5]:
                    self.assertEqual(history.only(lot, some, row).ground, ground.only(lot, some, row))

    def test_errors(self):
        went = History(Lot("f"))
        for value in any_values():
            if type(value) is not History:
                self.refuses(BadHistory("history"), few_things, value, None, None, None)
            if not (type(value) is int and 0 <= value <= 3):
                self.refuses(BadNumber(value), few_things, went, value, "no", "no")
                self.refuses(BadNumber(value), few_things, went, 3, value, "no")
                self.refuses(BadNumber(value), few_things, went, 0, 3, value)
        for value in (-1, 4):
            self.refuses(BadNumber(value), few_things, went, value, 0, 0)


if __name__ == "__main__":
    unittest.main()

"""Prices of deeds, alone and together."""

import itertools
import unittest
from unittest import mock

from editionlines.deeds import Carry, Deed, Down, Live, Meet, Offer, Probe, Redo, Try
from editionlines.errors import BadDeed, BadPrice, BadText
from editionlines.prices import Prices
from editionlines.words import Words
from tools import EditionTest, any_values, randoms, same

MOST = 10 ** 12
PRICED = ["carry f 1", "carry g 2", "try 1 2", "probe 1 2", "probe 2 1", "meet 1 2", "meet 2 3", "redo 1", "redo 200", "down 1", "down 6",
          "offer 1", "live 2"]
KEYS = ["carry f 1", "carry g 2", "meet 1 2", "meet 2 3", "redo 1", "redo 200", "down 1", "down 6"]
UNPRICED = ["fix f", "unfix f", "drop f 1", "merge 1", "merge 1 to f", "cut", "end 1", "rise 1", "rise 1 2 to 1", "day 1", "night 1",
            "renew 1", "shut 1"]


def told(prices):
    return [prices(Deed.read(text)) for text in PRICED]


def is_price(value):
    return value is None or (type(value) is int and 0 <= value <= MOST)


def random_prices(rng):
    some = [0, 0, 1, 2, 5, None, MOST, MOST // 2, 7]
    plain = [rng.choice(some) for _ in range(4)]
    special = {text: rng.choice(some) for text in KEYS if rng.random() < 0.3}
    return plain, special, Prices(*plain, rng.choice([special, dict(special)]) if special else rng.choice([None, {}]))


class PricesTest(EditionTest):
    def test_plain_prices(self):
        self.assertTrue(same(told(Prices()), [1, 1, 1, 1, 1, 1, 1, 1, 1, None, None, 0, 0]))
        self.assertTrue(same(told(Prices(2, 3, 4, 5)), [2, 2, 3, 3, 3, 3, 3, 4, 4, 5, 5, 0, 0]))
        self.assertTrue(same(told(Prices(carry=0, test=None, again=MOST, down=0)), [0, 0, None, None, None, None, None, MOST, MOST, 0, 0, 0, 0]))
        self.assertEqual(Prices(None, special=None)(Carry("f", 1)), None)

    def test_special_prices(self):
        prices = Prices(special={"carry f 1": 9, "meet 1 2": 8, "redo 200": None, "down 6": 0})
        self.assertTrue(same(told(prices), [9, 1, 8, 8, 8, 8, 1, 1, None, None, 0, 0, 0]))
        # The test of two lines costs the same in either order and of any kind.
        self.assertEqual([prices(Try(1, 2)), prices(Probe(2, 1)), prices(Meet(1, 2)), prices(Probe(3, 1))], [8, 8, 8, 1])

    def test_the_dict_stays_and_can_be_changed(self):
        special = {"carry f 1": 9}
        prices = Prices(special=special)
        special["carry f 1"] = 4
        special["down 1"] = 3
        self.assertEqual([prices(Carry("f", 1)), prices(Down(1))], [9, None])

    def test_errors_of_plain_prices(self):
        for value in any_values() + [MOST + 1]:
            if not is_price(value):
                self.refuses(BadPrice(value), Prices, value)
                self.refuses(BadPrice(value), Prices, 1, value, "x", -1)
                self.refuses(BadPrice(value), Prices, 1, None, value)
                self.refuses(BadPrice(value), Prices, down=value, special=7)
                self.refuses(BadPrice(value), Prices, special={"down 1": 1, "redo 2": value, "redo 3": -1})
            else:
                self.assertTrue(same(Prices(value)(Carry("f", 1)), value))
        self.assertEqual(Prices(MOST)(Carry("f", 1)), MOST)
        self.refuses(BadPrice(-1), Prices, 1, 1, 1, -1, {"x": 1})

    def test_errors_of_special_prices(self):
        for value in any_values():
            if value is not None and value != {}:
                self.refuses(BadPrice("special"), Prices, special=value)
            key = value if isinstance(value, (str, int, type(None))) else (1, 2)
            self.refuses(BadPrice("special"), Prices, special={"down 1": "x", key: 1})
        for text in UNPRICED + ["offer 1", "live 1", "try 1 2", "probe 1 2", "probe 2 1", "meet 2 1", "down", "down 7", "down 0", "redo 201",
                                "carry f", " down 1", "down 1 ", "Down 1", "carry f 01"]:
            self.refuses(BadPrice("special"), Prices, special={text: 1})
        self.refuses(BadPrice("special"), Prices, special=[("down 1", 1)])

    def test_which_texts_can_have_a_special_price(self):
        words = ["", "0", "1", "2", "5", "6", "7", "10", "199", "200", "201", "01", "-1", "+1", "1.0", "f", "abcdefgh", "abcdefghi", "F",
                 "f1", "to", "\n", "1\n", "x" * 6000, "9" * 6000]
        kinds = [*Deed.KINDS, "", "Carry", "down\n"]
        texts = [" ".join([kind, *row]) for kind in kinds for many in range(3) for row in itertools.product(words, repeat=many)]
        texts += [" ".join([kind, *row]) for kind in ("carry", "meet", "redo", "down") for row in itertools.product(words[:6], repeat=3)]
        found = 0
        for text in texts:
            try:
                wanted = isinstance(Deed.read(text), (Carry, Meet, Redo, Down))
            except BadText:
                wanted = False
            found += wanted
            if wanted:
                self.assertEqual(Prices(special={text: 9})(Deed.read(text)), 9, text)
            else:
                self.refuses(BadPrice("special"), Prices, special={text: 9})
        self.assertEqual(found, 30)

    def test_what_has_no_price(self):
        prices = Prices(1, 1, 1, 1)
        for value in any_values() + [Deed.read(text) for text in UNPRICED] + ["down 1"]:
            self.refuses(BadDeed(None), prices, value)
            self.refuses(BadDeed(2), prices.sum_of, [Carry("f", 1), Down(1), value, None])
            if not isinstance(value, (list, tuple)):
                self.refuses(BadDeed("deeds"), prices.sum_of, value)
        self.refuses(BadDeed(0), Prices(None, None, None).sum_of, (Deed.read("cut"), Carry("f", 1)))
        self.refuses(BadDeed(1), Prices(None).sum_of, (Carry("f", 1), Deed.read("cut")))

    def test_sums(self):
        prices = Prices(2, 3, 4, 5, {"carry f 1": MOST})
        self.assertTrue(same(prices.sum_of([]), 0))
        self.assertTrue(same(prices.sum_of(()), 0))
        self.assertEqual(prices.sum_of([Carry("g", 1), Try(1, 2), Redo(1), Down(1), Offer(1), Live(1)]), 14)
        # Without a bound.
        self.assertEqual(prices.sum_of(deeds=[Carry("f", 1)] * 5), 5 * MOST)
        self.assertIsNone(Prices().sum_of([Carry("f", 1), Down(1), Redo(1)]))
        self.assertEqual(Prices().sum_of((Carry("f", 1), Redo(1), Meet(1, 2))), 3)

    def test_together_and_so_often(self):
        for rng in randoms("prices", 150):
            _, _, one = random_prices(rng)
            _, _, other = random_prices(rng)
            number = rng.choice([0, 1, 2, 3, MOST, 10 ** 39])
            both, often = one + other, one * number
            for text in PRICED[:-2]:
                deed = Deed.read(text)
                first, second = one(deed), other(deed)
                wanted = None if first is None or second is None or first + second > MOST else first + second
                self.assertTrue(same(both(deed), wanted), (text, first, second))
                wanted = None if first is None or first * number > MOST else first * number
                self.assertTrue(same(often(deed), wanted), (text, first, number))
            self.assertEqual([both(Offer(1)), often(Live(1))], [0, 0])
            self.assertEqual(number * one, often)
            self.assertEqual(one + other, other + one)
            self.assertEqual(one * 1, one)
        self.assertEqual(Prices(MOST) + Prices(0, 0, 0), Prices(MOST))
        self.assertEqual(Prices(MOST) + Prices(1), Prices(None, 2, 2))
        self.assertEqual(Prices(MOST // 2) * 2, Prices(MOST, 2, 2))
        self.assertEqual(Prices(MOST // 2 + 1) * 2, Prices(None, 2, 2))
        self.assertEqual(Prices(None) * 0, Prices(None, 0, 0))
        # A special price beside a plain one of the other.
        self.assertEqual(Prices(special={"down 1": 4}) + Prices(down=2), Prices(2, 2, 2, special={"down 1": 6}))

    def test_signs_read_no_words_and_change_nothing(self):
        for rng in randoms("prices stay", 30):
            (plain, special, one), (others, told, other) = random_prices(rng), random_prices(rng)
            with mock.patch.object(Words, "__init__", side_effect=AssertionError("words are taken")):
                both, often, again = one + other, one * 3, 3 * one
            self.assertEqual(often, again)
            self.assertEqual(one, Prices(*plain, special))
            self.assertEqual(other, Prices(*others, told))
            # What was made goes its own way, and can be put together again.
            self.assertEqual(both + one, one + (other + one))
            self.assertEqual([one, other], [Prices(*plain, special), Prices(*others, told)])

    def test_errors_of_signs(self):
        prices = Prices()
        for value in any_values():
            if not isinstance(value, Prices):
                self.refuses(BadPrice("other"), lambda: prices + value)
            if not (type(value) is int and value >= 0):
                self.refuses(BadPrice(value), lambda: prices * value)
                self.refuses(BadPrice(value), lambda: value * prices)

    def test_equality(self):
        self.assertEqual(Prices(), Prices(1, 1, 1, None, {}))
        self.assertEqual(Prices(), Prices(special={"carry f 1": 1, "down 3": None, "meet 1 2": 1, "redo 7": 1}))
        self.assertEqual(Prices(special={"down 3": 5, "redo 7": 1}), Prices(special={"down 3": 5}))
        for other in (Prices(2), Prices(1, 2), Prices(1, 1, 2), Prices(1, 1, 1, 1), Prices(0), Prices(special={"down 3": 1}),
                      Prices(special={"carry f 1": None}), Prices(special={"meet 1 3": 0})):
            self.assertNotEqual(Prices(), other)
            self.assertNotEqual(other, Prices())
        for rng in randoms("equal prices", 60):
            plain, special, one = random_prices(rng)
            other = Prices(*plain, {key: special[key] for key in reversed(special)})
            self.assertEqual(one, other)
            key = rng.choice(KEYS)
            changed = Prices(*plain, {**special, key: 12345})
            self.assertEqual(one == changed, one(Deed.read(key)) == 12345)
        for value in any_values():
            self.assertEqual(Prices(2) == value, False)


if __name__ == "__main__":
    unittest.main()

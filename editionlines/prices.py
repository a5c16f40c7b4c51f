"""Prices: what the deeds of a mending cost."""

from editionlines.bounds import DAYS, LINES
from editionlines.checks import is_fix, is_integer, is_within
from editionlines.deeds import Carry, Down, Live, Meet, Offer, OfTwo, Redo
from editionlines.errors import BadDeed, BadPrice
from editionlines.takedowns import MOST_PRICE
from editionlines.words import number_of


def is_price(value):
    """Whether any value is a price."""
    return value is None or is_within(value, 0, MOST_PRICE)


def is_line_word(word):
    """Whether a word writes the number of a line."""
    return number_of(word, 1, LINES) is not None


def is_special(value):
    """Whether any value is the text of a deed that can have a price of its own."""
    if not isinstance(value, str):
        return False
    # Not by Deed.read, which takes words off an object: the signs of Prices run this, too, and change nothing.
    kind, *named = value.split(" ")
    if kind == "carry":
        return len(named) == 2 and is_fix(named[0]) and is_line_word(named[1])
    if kind == "meet":
        lines = [number_of(word, 1, LINES) for word in named]
        return len(lines) == 2 and None not in lines and lines[0] < lines[1]
    if kind == "redo":
        return len(named) == 1 and number_of(named[0], 1, DAYS) is not None
    return kind == "down" and len(named) == 1 and is_line_word(named[0])


def bounded(price):
    """A sum of prices as a price, None if it is too great."""
    return price if is_price(price) else None


def sum_of_two(one, other):
    """Two prices together, as a price."""
    return None if one is None or other is None else bounded(one + other)


def so_often(price, number):
    """A price so many times, as a price."""
    return None if price is None else bounded(price * number)


def priced_as(deed):
    """The deed as which a deed is priced: of a test the Meet of its lines."""
    if isinstance(deed, OfTwo):
        lines = sorted([int(line) for line in deed.named_lines()])
        return Meet(*lines)
    return deed


def can_have_price(value):
    """Whether any value is a deed that has a price."""
    return isinstance(value, (Carry, OfTwo, Redo, Down, Offer, Live))


class Prices:
    """What a carrying, a test, a making-again and a taking-down cost, and what special ones of them do."""

    def __init__(self, carry=1, test=1, again=1, down=None, special=None):
        told = {} if special is None else special
        for value in (carry, test, again, down):
            if not is_price(value):
                raise BadPrice(value)
        if not isinstance(told, dict) or not all([is_special(text) for text in told]):
            raise BadPrice("special")
        for text in told:
            if not is_price(told[text]):
                raise BadPrice(told[text])
        self.plain = {"carry": carry, "meet": test, "redo": again, "down": down}
        self.special = {text: told[text] for text in told}

    def __call__(self, deed):
        """The price of a deed."""
        if not can_have_price(deed):
            raise BadDeed(None)
        return self.price_told(deed)

    def price_told(self, deed):
        """The price of a deed that has one."""
        told = priced_as(deed)
        return self.special.get(str(told), self.plain.get(told.KIND, 0))

    def sum_of(self, deeds):
        """The prices of a list or tuple of deeds together, without a bound; None if one of them is None."""
        if not isinstance(deeds, (list, tuple)):
            raise BadDeed("deeds")
        for at, deed in enumerate(deeds):
            if not can_have_price(deed):
                raise BadDeed(at)
        prices = [self.price_told(deed) for deed in deeds]
        return None if any([price is None for price in prices]) else sum(prices)

    def __eq__(self, other):
        if not isinstance(other, Prices) or self.plain != other.plain:
            return False
        texts = [*self.special, *other.special]
        return all([self.price_of_text(text) == other.price_of_text(text) for text in texts])

    def __add__(self, other):
        if not isinstance(other, Prices):
            raise BadPrice("other")
        plain = {kind: sum_of_two(self.plain[kind], other.plain[kind]) for kind in self.plain}
        texts = [*self.special, *other.special]
        special = {text: sum_of_two(self.price_of_text(text), other.price_of_text(text)) for text in texts}
        return prices_of(plain, special)

    def __mul__(self, other):
        if not is_integer(other) or other < 0:
            raise BadPrice(other)
        plain = {kind: so_often(self.plain[kind], other) for kind in self.plain}
        special = {text: so_often(self.special[text], other) for text in self.special}
        return prices_of(plain, special)

    def __rmul__(self, other):
        return self * other

    def price_of_text(self, text):
        """The price of the deed with a text that can have a price of its own."""
        return self.special.get(text, self.plain[text.partition(" ")[0]])


def prices_of(plain, special):
    """The Prices with plain ones, by the words of kinds, and special ones."""
    return Prices(plain["carry"], plain["meet"], plain["redo"], plain["down"], special)

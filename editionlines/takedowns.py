"""Takedowns: which lines to take down so that all live releases that are left were tried."""

from editionlines.checks import is_within
from editionlines.cutting import sets_of
from editionlines.errors import BadPrice
from editionlines.papers import Paper, kept_value
from editionlines.tries import untried_places
from editionlines.ways import live_places, refuse_history

MOST_PRICE = 1000000000000


class Takedown(Paper):
    """The lines to take down, and what that costs."""

    def __init__(self, lines, price):
        self.lines = kept_value(lines)
        self.price = kept_value(price)

    def held(self):
        """The tuple of the values of all attributes."""
        return (self.lines, self.price)


def refuse_prices(history, prices):
    """Raises what is wrong with the prices of the lines of a history."""
    if prices is None:
        return
    if not isinstance(prices, dict):
        raise BadPrice(prices)
    for line in prices:
        if not is_within(line, 1, history.ground.line_count):
            raise BadPrice(line)
        if not is_within(prices[line], 0, MOST_PRICE):
            raise BadPrice(prices[line])


def are_tried(ground, lines):
    """Whether each two live releases of some lines of a Ground were tried."""
    return not untried_places(ground, [place for place in live_places(ground) if place[0] in lines])


def tried_sets(ground):
    """The ascending list of the tuples of lines that are up and of which each two live releases were tried."""
    up = [place[0] for place in live_places(ground)]
    return [lines for lines in sets_of(up) if are_tried(ground, lines)]


def is_part(one, other):
    """Whether all of a tuple of lines, and not just these, are in another one."""
    return len(one) < len(other) and all([line in other for line in one])


def at_once(history):
    """A generator of the tuples of lines that can be up at once, into which no other line that is up can be put."""
    refuse_history(history)
    found = tried_sets(history.ground)
    for lines in found:
        if not any([is_part(lines, other) for other in found]):
            yield lines


def takedown(history, prices=None):
    """The Takedown of the least price; of equal prices the one of the fewest lines, otherwise of the lesser tuple."""
    refuse_history(history)
    refuse_prices(history, prices)
    costs = {} if prices is None else prices
    up = [place[0] for place in live_places(history.ground)]
    best = None
    for left in tried_sets(history.ground):
        downs = tuple([line for line in up if line not in left])
        told = (sum([costs.get(line, 1) for line in downs]), len(downs), downs)
        if best is None or told < best:
            best = told
    price, _, lines = best
    return Takedown(lines, price)

"""Stops and what is left behind them, and the few things to which histories are cut down."""

from editionlines.checks import is_within
from editionlines.deeds import Deed, Merge, OfMany, deed_of
from editionlines.errors import BadDeed, BadHistory, BadLot, BadNumber
from editionlines.histories import History
from editionlines.lots import Lot

MOST_FEW = 3


def rest_of(deed):
    """What is not done of a stopped deed, None if it is not stopped."""
    if not isinstance(deed, Deed):
        raise BadDeed(None)
    if deed.stop() is None:
        return None
    if deed.KIND == "merge":
        return Merge(deed.line)
    return deed_of(deed.KIND, [number for number in deed.named() if number > deed.stop()], None)


def stops_of(deed, lot):
    """A generator of the same deed with each earlier stop behind which something is left."""
    if not isinstance(deed, Deed):
        raise BadDeed(None)
    if not isinstance(lot, Lot):
        raise BadLot("lot")
    if isinstance(deed, OfMany):
        things = lot.fixes if deed.KIND == "merge" else deed.named()
        for thing in things[:-1]:
            if deed.stop() is None or thing < deed.stop():
                yield deed_of(deed.KIND, deed.named(), thing)


def rows_of(things, many):
    """The ascending list of the ascending tuples of so many ones of some ascending things."""
    rows = [()]
    for _ in range(many):
        rows = [(*row, thing) for row in rows for thing in things if not row or thing > row[-1]]
    return rows


def sets_of(things):
    """The ascending list of all ascending tuples of some ascending things, of any number of them."""
    rows = [()]
    for thing in things[::-1]:
        rows = [(), *[(thing, *row) for row in rows], *rows[1:]]
    return rows


def few_things(history, fixes, lines, days):
    """A generator of all triples of a Lot, lines, and days of these lines of a history, of so many each."""
    if not isinstance(history, History):
        raise BadHistory("history")
    for number in (fixes, lines, days):
        if not is_within(number, 0, MOST_FEW):
            raise BadNumber(number)
    ground = history.ground
    numbers = list(range(1, ground.line_count + 1))
    for names in rows_of(history.lot.fixes, fixes):
        for some in rows_of(numbers, lines):
            theirs = [day for day in range(1, ground.day_count + 1) if ground.home_of(day) in some]
            for row in rows_of(theirs, days):
                yield Lot(*names), some, row

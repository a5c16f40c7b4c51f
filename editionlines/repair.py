"""Repair: what must be carried, tested, taken down and made again so that all is right."""

from editionlines.bounds import RELEASES
from editionlines.cutting import sets_of
from editionlines.deeds import Carry, Down, Live, Meet, Offer, Probe, Redo, Try
from editionlines.errors import BadPlace, BadPrice
from editionlines.grounds import live_lot, refuse_numbers
from editionlines.lots import Lot
from editionlines.papers import Denial, Paper, kept_value
from editionlines.prices import Prices
from editionlines.tries import untried_places
from editionlines.ways import live_places, refuse_history


class Mending(Paper):
    """The lines that stay and those that are taken down, and what is done so that all is right."""

    def __init__(self, stays, lots, downs, carried, renewed, tests, redone):
        self.stays = kept_value(stays)
        self.lots = kept_value(lots)
        self.downs = kept_value(downs)
        self.carried = kept_value(carried)
        self.renewed = kept_value(renewed)
        self.tests = kept_value(tests)
        self.redone = kept_value(redone)

    def held(self):
        """The tuple of the values of all attributes."""
        return (self.stays, self.lots, self.downs, self.carried, self.renewed, self.tests, self.redone)


class Unmended(Denial):
    """The eldest one of the lines that stay that must be renewed and cannot be, and what those ahead of it run."""

    def __init__(self, stays, lots, line):
        self.stays = kept_value(stays)
        self.lots = kept_value(lots)
        self.line = kept_value(line)

    def held(self):
        """The tuple of the values of all attributes."""
        return (self.stays, self.lots, self.line)


class Repair(Paper):
    """The least price, the mending that costs it, and the price of each mending."""

    def __init__(self, price, mending, rows):
        self.price = kept_value(price)
        self.mending = kept_value(mending)
        self.rows = kept_value(rows)

    def held(self):
        """The tuple of the values of all attributes."""
        return (self.price, self.mending, self.rows)


class NoRepair(Denial):
    """That no mending has a price."""

    def __init__(self, rows):
        self.rows = kept_value(rows)

    def held(self):
        """The tuple of the values of all attributes."""
        return (self.rows,)


def up_lines(history):
    """The ascending list of the lines of a history that are up."""
    refuse_history(history)
    return [place[0] for place in live_places(history.ground)]


def refuse_stays(history, stays):
    """Raises what is wrong with a history and the lines of it that stay."""
    up = up_lines(history)
    if not isinstance(stays, (list, tuple)):
        raise BadPlace("lines")
    refuse_numbers(stays, history.ground.line_count, True)
    if not all([line in up for line in stays]):
        raise BadPlace("up")


def tested_pairs(ground, stays, renewed):
    """The tuple of the pairs of lines that must be tested, of those that stay."""
    untried = [(one[0], other[0]) for one, other in untried_places(ground, live_places(ground))]
    pairs = [(one, other) for one in stays for other in stays if one < other]
    return tuple([pair for pair in pairs if pair in untried or pair[0] in renewed or pair[1] in renewed])


def redone_days(ground, lots):
    """The tuple of the days to be made again; lots is a dict from the lines that stay to what they run at last."""
    days = [(at + 1, state) for at, state in enumerate(ground.days) if state.line in lots and not state.is_shut]
    return tuple([day for day, state in days if state.lot != lots[state.line]])


def mending(history, stays):
    """The Mending of a history if these lines stay; the Unmended if one of them cannot be renewed."""
    refuse_stays(history, stays)
    ground = history.ground
    needs = history.needs.only(history.lot)
    lots = {}
    carried = []
    renewed = []
    ahead = Lot()
    for line in stays:
        state = ground.lines[line - 1]
        runs = live_lot(state)
        wanted = needs.all_of(runs | ahead)
        if wanted != runs:
            if not state.is_open or len(state.releases) == RELEASES:
                return Unmended(tuple(stays), tuple([lots[one] for one in lots]), line)
            wanted = needs.all_of(wanted | state.lot)
            carried.extend([(fix, line) for fix in wanted - state.lot])
            renewed.append(line)
        lots[line] = wanted
        ahead = ahead | wanted
    downs = tuple([line for line in up_lines(history) if line not in stays])
    tests = tested_pairs(ground, stays, renewed)
    told = tuple([lots[line] for line in stays])
    return Mending(tuple(stays), told, downs, tuple(carried), tuple(renewed), tests, redone_days(ground, lots))


def mendings(history):
    """A generator of the mending for each set of lines that are up, ascending as tuples."""
    for stays in sets_of(up_lines(history)):
        yield mending(history, stays)


def deed_of_test(renewed, one, other):
    """The deed by which two lines are tested, ahead of the renewed ones going live."""
    if one in renewed and other in renewed:
        return Try(one, other)
    if one in renewed:
        return Probe(one, other)
    return Probe(other, one) if other in renewed else Meet(one, other)


def steps_of(mending):
    """A generator of the deeds of a Mending, in order."""
    if not isinstance(mending, Mending):
        raise BadPlace("mending")
    for line in mending.downs:
        yield Down(line)
    for line in mending.renewed:
        for fix, goal in mending.carried:
            if goal == line:
                yield Carry(fix, line)
        yield Offer(line)
    for one, other in mending.tests:
        yield deed_of_test(mending.renewed, one, other)
    for line in mending.renewed:
        yield Down(line)
    for line in mending.renewed:
        yield Live(line)
    for day in mending.redone:
        yield Redo(day)


def price_of(mending, prices):
    """The price of a Mending, None if there is none; None for an Unmended."""
    if not isinstance(mending, (Mending, Unmended)):
        raise BadPlace("mending")
    if not isinstance(prices, Prices):
        raise BadPrice("prices")
    if isinstance(mending, Unmended):
        return None
    deeds = [Down(line) for line in mending.downs]
    deeds.extend([Carry(fix, line) for fix, line in mending.carried])
    deeds.extend([Meet(one, other) for one, other in mending.tests])
    deeds.extend([Redo(day) for day in mending.redone])
    return prices.sum_of(deeds)


def least_repair(history, prices):
    """The Repair of the least price; of equal prices the one counts in which most lines stay, then the lesser tuple."""
    found = list(mendings(history))
    # There is always a mending of which price_of refuses what is no Prices: that of no lines.
    rows = tuple([(one.stays, price_of(one, prices)) for one in found])
    best = None
    for at, (stays, price) in enumerate(rows):
        if price is not None:
            # Of equal ones the first one stays the best: its tuple is the least.
            told = (price, -len(stays), at)
            if best is None or told < best:
                best = told
    if best is None:
        return NoRepair(rows)
    return Repair(best[0], found[best[2]], rows)

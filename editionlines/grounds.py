"""What a project is at a moment."""

from editionlines.bounds import DAYS, LINES, RELEASES
from editionlines.checks import is_within
from editionlines.deeds import Deed, OfDay, OfTwo, OnMain
from editionlines.errors import BadDeed, BadLot, BadPlace, EditionError, NoDay, NoLine, TooMany, Undone
from editionlines.lots import Lot
from editionlines.papers import Paper, kept_value
from editionlines.views import View, refuse_missing

# What a deed tries, as the word that is true of its lines behind it.
TRIED_WORDS = {"try": "tried", "probe": "probed", "meet": "met"}


class LineState(Paper):
    """A line: what it has, the Lots of its releases, which of these is live, and whether the line is open."""

    def __init__(self, lot, releases=(), live=None, is_open=True):
        self.lot = kept_value(lot)
        self.releases = kept_value(releases)
        self.live = kept_value(live)
        self.is_open = kept_value(is_open)

    def held(self):
        """The tuple of the values of all attributes."""
        return (self.lot, self.releases, self.live, self.is_open)


class DayState(Paper):
    """A day: the number of its line, what it was made with, and whether it is shut."""

    def __init__(self, line, lot, is_shut=False):
        self.line = kept_value(line)
        self.lot = kept_value(lot)
        self.is_shut = kept_value(is_shut)

    def held(self):
        """The tuple of the values of all attributes."""
        return (self.line, self.lot, self.is_shut)


def last_lot(state):
    """The Lot of the last release of a line, or None."""
    return state.releases[-1] if state.releases else None


def live_lot(state):
    """The Lot of the live release of a line, or None."""
    return None if state.live is None else state.releases[state.live]


def is_fresh(state):
    """Whether the last release of a line is the live one."""
    return state.live == len(state.releases) - 1


def line_is(word, state, fix):
    """Whether a word of places that is no opposite is true of a line."""
    if word == "has":
        return fix in state.lot
    if word == "open":
        return state.is_open
    if word == "up":
        return state.live is not None
    if word == "fresh":
        return is_fresh(state)
    if word == "shipped":
        return any([fix in lot for lot in state.releases])
    if word == "missed":
        return not all([fix in lot for lot in state.releases])
    lot = last_lot(state) if word in ("gives", "omits") else live_lot(state)
    return lot is not None and (fix in lot) == (word in ("gives", "runs"))


def is_line_ready(deed, state):
    """Whether a deed on lines, but of two, can be done on a line that it names."""
    kind = deed.KIND
    if kind in ("carry", "drop"):
        return state.is_open and (deed.fix in state.lot) == (kind == "drop")
    if kind in ("merge", "end", "offer"):
        return state.is_open
    if kind in ("live", "rise"):
        return len(state.releases) > 0 and not is_fresh(state)
    return state.live is not None


def line_behind(deed, state, main):
    """The LineState behind a deed on a line that it is done for, but for one that makes a day."""
    kind = deed.KIND
    if kind == "carry":
        return LineState(state.lot | Lot(deed.fix), state.releases, state.live)
    if kind == "drop":
        return LineState(state.lot - Lot(deed.fix), state.releases, state.live)
    if kind == "merge":
        merged = [fix for fix in main if deed.upto is None or fix <= deed.upto]
        return LineState(state.lot | Lot.of(merged), state.releases, state.live)
    if kind == "end":
        return LineState(state.lot, state.releases, state.live, False)
    if kind == "offer":
        return LineState(state.lot, (*state.releases, state.lot), state.live)
    live = None if kind == "down" else len(state.releases) - 1
    return LineState(state.lot, state.releases, live, state.is_open)


def done_numbers(deed):
    """The lines or days for which a deed on them is done: those up to its stop."""
    return [number for number in deed.named() if deed.stop() is None or number <= deed.stop()]


def place_of(things, thing):
    """How many of some ascending things are less than a thing."""
    low = 0
    high = len(things)
    while low < high:
        middle = (low + high) // 2
        if things[middle] < thing:
            low = middle + 1
        else:
            high = middle
    return low


def is_among(things, thing):
    """Whether a thing is one of some ascending things."""
    at = place_of(things, thing)
    return at < len(things) and things[at] == thing


def refuse_numbers(numbers, count, is_line):
    """Raises the first one of some numbers that is not there, or not greater than the one ahead of it."""
    last = 0
    for number in numbers:
        if not is_within(number, last + 1, count):
            if is_line:
                raise NoLine(number)
            raise NoDay(number)
        last = number


class Ground(View):
    """What main has, the lines, the days, and which releases were tried; at first the start of a lot."""

    def __init__(self, lot):
        if not isinstance(lot, Lot):
            raise BadLot("lot")
        self.lot = lot
        self.fixes = lot.fixes
        self.main = Lot()
        self.lines = ()
        self.days = ()
        self.tried = ()

    def __eq__(self, other):
        if not isinstance(other, Ground) or self.lot != other.lot or self.main != other.main:
            return False
        return self.lines == other.lines and self.days == other.days and self.tried == other.tried

    def __call__(self, deed):
        return self.after(deed)

    def after(self, deed):
        """The Ground behind a deed."""
        if not isinstance(deed, Deed):
            raise BadDeed(None)
        refuse_missing(self, deed)
        if not self.is_ready(deed):
            raise Undone(None)
        if isinstance(deed, OnMain):
            return self.behind_main(deed)
        if isinstance(deed, OfTwo):
            return self.behind_try(deed)
        if isinstance(deed, OfDay):
            return self.behind_days(deed)
        if deed.KIND in ("day", "night"):
            return self.behind_night(deed)
        return self.behind_lines(deed)

    def can(self, deed):
        """Whether after would raise nothing."""
        if not isinstance(deed, Deed):
            raise BadDeed(None)
        try:
            self.after(deed)
        except EditionError:
            return False
        return True

    def is_ready(self, deed):
        """Whether a deed can be done, as far as the table of the deeds tells; the bounds are not asked."""
        if deed.KIND in ("fix", "unfix"):
            return (deed.fix in self.main) == (deed.KIND == "unfix")
        if isinstance(deed, OfTwo):
            return self.shown_pair(TRIED_WORDS[deed.KIND], deed.line, deed.mate) is not None
        if isinstance(deed, OfDay):
            return all([self.is_day_ready(deed, self.days[day - 1]) for day in deed.own_days()])
        return all([is_line_ready(deed, self.lines[line - 1]) for line in deed.named_lines()])

    def is_day_ready(self, deed, day):
        """Whether a deed can be done on a day, told by its DayState."""
        return not day.is_shut and (deed.KIND == "shut" or self.lines[day.line - 1].live is not None)

    def with_things(self, main, lines, days, tried):
        """The Ground of the same lot with these things."""
        made = Ground(self.lot)
        made.main = main
        made.lines = lines
        made.days = days
        made.tried = tried
        return made

    def behind_main(self, deed):
        """The Ground behind a deed on main."""
        if deed.KIND == "fix":
            return self.with_things(self.main | Lot(deed.fix), self.lines, self.days, self.tried)
        if deed.KIND == "unfix":
            return self.with_things(self.main - Lot(deed.fix), self.lines, self.days, self.tried)
        if self.line_count == LINES:
            raise TooMany("lines", LINES)
        return self.with_things(self.main, (*self.lines, LineState(self.main)), self.days, self.tried)

    def behind_try(self, deed):
        """The Ground behind a deed of two lines."""
        pair = self.shown_pair(TRIED_WORDS[deed.KIND], deed.line, deed.mate)
        if is_among(self.tried, pair):
            return self
        at = place_of(self.tried, pair)
        return self.with_things(self.main, self.lines, self.days, (*self.tried[:at], pair, *self.tried[at:]))

    def behind_days(self, deed):
        """The Ground behind a deed on days."""
        days = list(self.days)
        for number in done_numbers(deed):
            day = self.days[number - 1]
            if deed.KIND == "shut":
                days[number - 1] = DayState(day.line, day.lot, True)
            else:
                days[number - 1] = DayState(day.line, live_lot(self.lines[day.line - 1]))
        return self.with_things(self.main, self.lines, tuple(days), self.tried)

    def behind_night(self, deed):
        """The Ground behind a deed that makes days."""
        made = [DayState(line, live_lot(self.lines[line - 1])) for line in done_numbers(deed)]
        if len(made) + self.day_count > DAYS:
            raise TooMany("days", DAYS)
        return self.with_things(self.main, self.lines, (*self.days, *made), self.tried)

    def behind_lines(self, deed):
        """The Ground behind any other deed."""
        done = deed.named_lines() if deed.KIND == "merge" else done_numbers(deed)
        lines = list(self.lines)
        for line in deed.named_lines():
            state = self.lines[line - 1]
            if deed.KIND == "offer" and len(state.releases) == RELEASES:
                raise TooMany("releases", RELEASES)
            if line in done:
                lines[line - 1] = line_behind(deed, state, self.main)
        return self.with_things(self.main, tuple(lines), self.days, self.tried)

    def shown_pair(self, word, line, other):
        """The pair of releases of two lines of which a word tells whether they were tried; None if one is not there.

        Each release is a pair of its line and its number; that of the lesser line is the first one.
        """
        own = self.shown_number(line, word in ("backed", "met"))
        its = self.shown_number(other, word in ("probed", "met"))
        if own is None or its is None:
            return None
        return ((line, own), (other, its)) if line < other else ((other, its), (line, own))

    def shown_number(self, line, is_live):
        """The number of the live or the last release of a line, None if there is none."""
        state = self.lines[line - 1]
        if is_live:
            return state.live
        return len(state.releases) - 1 if state.releases else None

    def place_is(self, word, place, fix):
        """Whether a word of places that is no opposite is true of a place."""
        if place == 0:
            return word == "open" or (word == "has" and fix in self.main)
        return line_is(word, self.lines[place - 1], fix)

    def two_are(self, word, line, other):
        """Whether a word of two lines that is no opposite is true of them."""
        pair = self.shown_pair(word, line, other)
        return pair is not None and is_among(self.tried, pair)

    def day_is(self, word, day, fix):
        """Whether a word of days that is no opposite is true of a day."""
        state = self.days[day - 1]
        if word == "shut":
            return state.is_shut
        if word == "keeps":
            return fix in state.lot
        return (fix in state.lot) == line_is("runs", self.lines[state.line - 1], fix)

    def home_of(self, day):
        """The number of the line of a day."""
        return self.days[day - 1].line

    def only(self, lot, lines, days):
        """What is left if just these fixes, lines and days are kept, with new numbers."""
        self.refuse_only(lot, lines, days)
        numbers = {line: at + 1 for at, line in enumerate(lines)}
        made = Ground(lot)
        made.main = self.main & lot
        made.lines = tuple([line_within(self.lines[line - 1], lot) for line in lines])
        made.days = tuple([day_within(self.days[day - 1], lot, numbers) for day in days])
        made.tried = tuple([
            ((numbers[line], at), (numbers[other], to))
            for (line, at), (other, to) in self.tried if line in numbers and other in numbers
        ])
        return made

    def refuse_only(self, lot, lines, days):
        """Raises what is wrong with the things that are to be kept."""
        if not isinstance(lot, Lot) or not lot <= self.lot:
            raise BadLot("lot")
        if not isinstance(lines, (list, tuple)):
            raise BadPlace("lines")
        if not isinstance(days, (list, tuple)):
            raise BadPlace("days")
        refuse_numbers(lines, self.line_count, True)
        refuse_numbers(days, self.day_count, False)
        for day in days:
            if self.home_of(day) not in lines:
                raise NoDay(day)


def line_within(state, lot):
    """A LineState without the fixes that are not in a lot."""
    return LineState(state.lot & lot, tuple([told & lot for told in state.releases]), state.live, state.is_open)


def day_within(state, lot, numbers):
    """A DayState without the fixes that are not in a lot, and with the new number of its line."""
    return DayState(numbers[state.line], state.lot & lot, state.is_shut)

"""Catchups: how many nights it takes until no day is left that must be made again."""

from editionlines.bounds import DAYS, LINES
from editionlines.checks import is_within
from editionlines.deeds import Night, Renew
from editionlines.dues import due_days
from editionlines.errors import BadNumber, BadWeb, TooMany
from editionlines.grounds import is_among, place_of
from editionlines.papers import Denial, Paper, kept_value
from editionlines.ways import live_places, refuse_history
from editionlines.webs import MOST_BACK, Web, again, made_from

MOST_AMOUNTS = 12
MOST_AMOUNT = 200
MOST_NIGHTS = 1000


class Over(Paper):
    """Behind so many nights the list is empty for the first time."""

    def __init__(self, nights):
        self.nights = kept_value(nights)

    def held(self):
        """The tuple of the values of all attributes."""
        return (self.nights,)


class Never(Denial):
    """Two numbers of nights, behind the later of which the list is as it was behind the other one, or longer."""

    def __init__(self, begin, later):
        self.begin = kept_value(begin)
        self.later = kept_value(later)

    def held(self):
        """The tuple of the values of all attributes."""
        return (self.begin, self.later)


def refuse_caught(history, web, amounts):
    """Raises what is wrong with what nights are asked of, but for their number."""
    refuse_history(history)
    if not isinstance(web, Web):
        raise BadWeb("web")
    if not isinstance(amounts, tuple) or not 1 <= len(amounts) <= MOST_AMOUNTS:
        raise BadNumber(amounts)
    if not all([is_within(amount, 0, MOST_AMOUNT) for amount in amounts]):
        raise BadNumber(amounts)


class Nights:
    """The list of the days that must be made again, and the days of all lines, night by night; it changes."""

    def __init__(self, history, web, amounts):
        ground = history.ground
        self.web = web
        self.amounts = amounts
        self.passed = 0
        self.up = tuple([place[0] for place in live_places(ground)])
        self.rows = {line: [] for line in range(1, LINES + 1)}
        for at, state in enumerate(ground.days):
            self.rows[state.line].append(at + 1)
        self.day_total = ground.day_count
        due = due_days(history)
        self.waiting = list(again(history, web, *due).days)

    def pass_night(self):
        """Passes one night; returns the list of the days that are made again."""
        amount = self.amounts[self.passed % len(self.amounts)]
        done = self.waiting[:amount]
        self.waiting = self.waiting[amount:]
        for line in self.up:
            self.make_day(line)
        self.passed += 1
        return done

    def make_day(self, line):
        """Makes the next day of a line, which joins the list if it is made from a day on it."""
        sources = made_from(self.web, line, self.rows)
        self.day_total += 1
        self.rows[line].append(self.day_total)
        if any([is_among(self.waiting, day) for day in sources]):
            self.waiting.append(self.day_total)

    def index_of(self, day):
        """The index of a day on the list, -1 if it is not there."""
        return place_of(self.waiting, day) if is_among(self.waiting, day) else -1

    def marks(self):
        """What decides whether the list can be as it is for ever, as a tuple of integers that must not become less.

        It has the length of the list, and of each of the last ten days of each line that is up its index on the list.
        """
        found = [len(self.waiting)]
        for line in self.up:
            last = self.rows[line][-1 - MOST_BACK:]
            indexes = [self.index_of(day) for day in last[::-1]]
            found.extend([*indexes, *[-1 for _ in range(MOST_BACK + 1 - len(last))]])
        return tuple(found)


def nights_of(history, web, amounts, nights):
    """The Nights ahead of the first of so many; raises what is wrong with the arguments."""
    refuse_caught(history, web, amounts)
    if not is_within(nights, 0, MOST_NIGHTS):
        raise BadNumber(nights)
    return Nights(history, web, amounts)


def listed(history, web, amounts, nights):
    """The tuple of the days on the list behind so many nights."""
    played = nights_of(history, web, amounts, nights)
    for _ in range(nights):
        played.pass_night()
    return tuple(played.waiting)


def nightly(history, web, amounts, nights):
    """The tuple of the deeds of so many nights."""
    played = nights_of(history, web, amounts, nights)
    if played.day_total + nights * len(played.up) > DAYS:
        raise TooMany("days", DAYS)
    deeds = []
    lines = played.up
    for _ in range(nights):
        done = played.pass_night()
        if done:
            deeds.append(Renew(*done))
        if lines:
            deeds.append(Night(*lines))
    return tuple(deeds)


def is_no_less(one, other):
    """Whether no mark of a list is less than that of another one."""
    for mark, least in zip(one, other):
        if mark < least:
            return False
    return True


def never_of(rows, step):
    """The Never of two of some marks, night by night, whose nights differ by a multiple of step; None without one."""
    for later, marks in enumerate(rows):
        for begin in range(later - step, -1, -step):
            if is_no_less(marks, rows[begin]):
                return Never(begin, later)
    return None


def catchup(history, web, amounts):
    """The Over of the least number of nights behind which the list is empty; otherwise a Never."""
    refuse_caught(history, web, amounts)
    played = Nights(history, web, amounts)
    rows = []
    while played.waiting and played.passed < MOST_NIGHTS:
        rows.append(played.marks())
        played.pass_night()
    if not played.waiting:
        return Over(played.passed)
    rows.append(played.marks())
    found = never_of(rows, len(amounts))
    if found is None:
        raise TooMany("nights", MOST_NIGHTS)
    return found


def is_over(history, web, amount, nights):
    """Whether with an amount the list is empty behind so many nights."""
    played = Nights(history, web, (amount,))
    for _ in range(nights):
        played.pass_night()
    return not played.waiting


def least_amount(history, web, nights):
    """The least amount with which the list is empty behind so many nights."""
    refuse_history(history)
    if not isinstance(web, Web):
        raise BadWeb("web")
    if not is_within(nights, 1, MOST_NIGHTS):
        raise BadNumber(nights)
    low = 0
    high = MOST_AMOUNT
    while low < high:
        middle = (low + high) // 2
        if is_over(history, web, middle, nights):
            high = middle
        else:
            low = middle + 1
    return low

"""Standings: what is told of few things of a history, so that all histories come to finitely many of them."""

from editionlines.checks import is_within
from editionlines.deeds import Deed
from editionlines.errors import BadDeed, BadLiteral, BadStanding, NoDay, NoFix, NoLine, TooMany, Undone
from editionlines.grounds import Ground, is_fresh, last_lot, live_lot
from editionlines.kinds import FEATURES, Kind, refuse_features
from editionlines.moves import Move, NO_TRIES, Rules, all_deeds, behind, is_ready, names_of, stand_is, step_behind
from editionlines.needs import Needs
from editionlines.stands import DayStand, LineStand
from editionlines.standtexts import take_standing, text_of
from editionlines.views import View, refuse_missing
from editionlines.vocabulary import feature_of
from editionlines.words import Words

# Which of the four bools of two a word tells, of the first line as own, and of the second one.
PLACES_OF_TWO = {"tried": (0, 0), "probed": (1, 2), "backed": (2, 1), "met": (3, 3)}
MOST_OF_A_KIND = 2


def refuse_fixes(ground, fixes):
    """Raises the first one of some fixes that a ground does not have, that came before, or that is one too many."""
    if not isinstance(fixes, (list, tuple)):
        raise NoFix(fixes)
    for at, fix in enumerate(fixes):
        if fix not in ground.lot or fix in fixes[:at] or at == MOST_OF_A_KIND:
            raise NoFix(fix)


def refuse_lines(ground, lines):
    """Raises the first one of some lines that is not there, not behind the one ahead, or one too many."""
    if not isinstance(lines, (list, tuple)):
        raise NoLine(lines)
    for at, line in enumerate(lines):
        least = lines[at - 1] + 1 if at > 0 else 1
        if not is_within(line, least, ground.line_count) or at == MOST_OF_A_KIND:
            raise NoLine(line)


def refuse_days(ground, days, lines):
    """Raises the first one of some days that is not there, not behind the one ahead, too many, or of no such line."""
    if not isinstance(days, (list, tuple)):
        raise NoDay(days)
    for at, day in enumerate(days):
        least = days[at - 1] + 1 if at > 0 else 1
        if not is_within(day, least, ground.day_count) or at == MOST_OF_A_KIND:
            raise NoDay(day)
        if ground.home_of(day) not in lines:
            raise NoDay(day)


def bools_of(lot, fixes):
    """Which of some fixes a lot has, as a tuple of bools; None for None."""
    return None if lot is None else tuple([fix in lot for fix in fixes])


def past_of(lots, fix):
    """The word for how the lots of some releases stand about a fix."""
    told = [fix in lot for lot in lots]
    if not told:
        return "none"
    if all(told):
        return "all"
    if not any(told):
        return "no"
    return "won" if told[-1] else "lost"


def line_of_state(state, fixes):
    """What a standing of some fixes tells of a line with a LineState."""
    past = tuple([past_of(state.releases, fix) for fix in fixes])
    last = bools_of(last_lot(state), fixes)
    live = bools_of(live_lot(state), fixes)
    return (bools_of(state.lot, fixes), state.is_open, past, last, live, live is not None and is_fresh(state))


def two_of_ground(ground, lines):
    """Which releases of some lines were tried; of fewer than two lines none were."""
    if len(lines) < 2:
        return NO_TRIES
    return tuple([ground.two_are(word, lines[0], lines[1]) for word in PLACES_OF_TWO])


def line_within(line, many, features):
    """What a standing of so many fixes with some features tells of a line that is told in full."""
    has, is_open, past, last, live, fresh = line
    if "past" not in features:
        past = tuple(["none" for _ in past])
    last = last[:many] if "last" in features and last is not None else None
    is_up = "live" in features and live is not None
    live = live[:many] if is_up else None
    return (has[:many], is_open or "open" not in features, past[:many], last, live, is_up and fresh)


def state_within(state, kind, features):
    """What a standing of a lesser kind with fewer features tells, of what a state tells."""
    is_turned, main, lines, two, days = state
    many = kind.fixes
    lines = tuple([line_within(line, many, features) for line in lines[:kind.lines]])
    days = tuple([(keeps[:many], is_shut) for keeps, is_shut in days[:len(kind.days)]])
    two = two if "tries" in features and len(lines) == 2 else NO_TRIES
    return (is_turned and many == 2, main[:many], lines, two, days)


class Standing(View):
    """What is told of the kept things of a history."""

    def __init__(self, kind, features, state):
        self.kind = kind
        self.features = features
        self.state = state
        self.is_turned, self.main, lines, self.two, days = state
        self.names = names_of(kind.fixes, self.is_turned)
        self.fixes = names_of(kind.fixes, False)
        self.lines = tuple([LineStand(*line) for line in lines])
        self.days = tuple([DayStand(*day) for day in days])

    @classmethod
    def starts(cls, kind, features=FEATURES):
        """The tuple of the standings of the start."""
        if not isinstance(kind, Kind):
            raise BadStanding("kind")
        refuse_features(kind, features)
        main = tuple([False for _ in range(kind.fixes)])
        start = cls(kind, features, (False, main, (), NO_TRIES, ()))
        if kind.fixes < 2:
            return (start,)
        return (start, cls(kind, features, (True, main, (), NO_TRIES, ())))

    @classmethod
    def of(cls, ground, fixes, lines, days, features=FEATURES):
        """The Standing of few things of a Ground; of two fixes the first one is said to need the second."""
        if not isinstance(ground, Ground):
            raise BadStanding("ground")
        refuse_fixes(ground, fixes)
        refuse_lines(ground, lines)
        refuse_days(ground, days, lines)
        kind = Kind(len(fixes), len(lines), [list(lines).index(ground.home_of(day)) + 1 for day in days])
        refuse_features(kind, features)
        told = tuple([line_of_state(ground.lines[line - 1], fixes) for line in lines])
        made = [ground.days[day - 1] for day in days]
        days_told = tuple([(bools_of(day.lot, fixes), day.is_shut) for day in made])
        is_turned = len(fixes) == 2 and fixes[0] > fixes[1]
        state = (is_turned, bools_of(ground.main, fixes), told, two_of_ground(ground, lines), days_told)
        return cls(kind, features, state_within(state, kind, features))

    @classmethod
    def read(cls, text):
        """The Standing with this text."""
        kind, features, state = take_standing(Words(text))
        return cls(kind, features, state)

    def __str__(self):
        return str(text_of(self.kind, self.features, self.state))

    def __eq__(self, other):
        if not isinstance(other, Standing) or self.kind != other.kind:
            return False
        return self.features == other.features and self.state == other.state

    def __call__(self, deed):
        return self.after(deed)

    @property
    def key(self):
        """A key for dicts that is equal for equal standings alone."""
        kind = self.kind
        return (kind.fixes, kind.lines, kind.days, self.features, self.state)

    def own_needs(self):
        """The Needs of the fixes of the standing."""
        return Needs({self.names[0]: [self.names[1]]}) if len(self.names) == 2 else Needs()

    def after(self, deed):
        """The Standing behind a deed of kept things."""
        if not isinstance(deed, Deed):
            raise BadDeed(None)
        refuse_missing(self, deed)
        move = Move(deed, self.names)
        rules = Rules(self.kind, self.features)
        if not is_ready(self.state, move, rules):
            raise Undone(None)
        found = behind(self.state, move, rules)
        if found is None:
            raise TooMany("lines", self.kind.lines)
        return Standing(self.kind, self.features, found)

    def askable(self, kind=None):
        """A generator of all deeds of kept things, or of those of one kind, that can be done."""
        rules = Rules(self.kind, self.features)
        for deed in all_deeds(self.names, self.line_count, self.day_count, kind):
            if is_ready(self.state, Move(deed, self.names), rules):
                yield deed

    def steps(self):
        """A generator of the pairs of a deed and another Standing to which it leads."""
        rules = Rules(self.kind, self.features)
        for deed in self.askable():
            found = step_behind(self.state, Move(deed, self.names), rules)
            if found is not None:
                yield deed, Standing(self.kind, self.features, found)

    def narrowed(self, kind, features):
        """The Standing of a lesser kind with fewer features."""
        if not isinstance(kind, Kind) or not kind <= self.kind:
            raise BadStanding("kind")
        refuse_features(kind, features)
        if not all([word in self.features for word in features]):
            raise BadStanding("features")
        return Standing(kind, features, state_within(self.state, kind, features))

    def refuse_untold(self, word):
        """Raises BadLiteral for a word of a feature that the standing does not tell."""
        feature = feature_of(word)
        if feature is not None and feature not in self.features:
            raise BadLiteral("features")

    def place_is(self, word, place, fix):
        """Whether a word of places that is no opposite is true of a place."""
        at = None if fix is None else self.names.index(fix)
        if place == 0:
            return word == "open" or (word == "has" and self.main[at])
        return stand_is(word, self.state[2][place - 1], at)

    def two_are(self, word, line, other):
        """Whether a word of two lines that is no opposite is true of them."""
        return self.two[PLACES_OF_TWO[word][0 if line < other else 1]]

    def day_is(self, word, day, fix):
        """Whether a word of days that is no opposite is true of a day."""
        keeps, is_shut = self.state[4][day - 1]
        if word == "shut":
            return is_shut
        at = self.names.index(fix)
        if word == "keeps":
            return keeps[at]
        return keeps[at] == stand_is("runs", self.state[2][self.home_of(day) - 1], at)

    def home_of(self, day):
        """The number of the line of a day."""
        return self.kind.days[day - 1]

"""What deeds do to standings, as plain values.

A *state* is what a Standing of a kind and some features tells: a tuple (is_turned, main, lines, two, days). main is
a tuple of a bool for each fix, lines a tuple of tuples (has, is_open, past, last, live, fresh), two a tuple of four
bools, days a tuple of tuples (keeps, is_shut). Lines and days are told by their indexes here.
"""

from editionlines.deeds import Deed, deed_of
from editionlines.grounds import done_numbers

NO_TRIES = (False, False, False, False)
# How the releases about a fix stand behind one more that has it, that lacks it.
PAST_WITH = {"none": "all", "all": "all", "no": "won", "won": "won", "lost": "won"}
PAST_WITHOUT = {"none": "no", "all": "lost", "no": "no", "won": "lost", "lost": "lost"}
# Where a line tells whether it is open, its last and its live release, and whether these are one.
OPEN = 1
LAST = 3
LIVE = 4
FRESH = 5
# Whether the live release of the first line, and that of the second one, is meant by each of the four bools of two.
CELLS = ((False, False), (False, True), (True, False), (True, True))
# The ascending tuples of numbers up to none, one and two.
RISING = ((), ((1,),), ((1,), (1, 2), (2,)))
FIX_KINDS = ("fix", "unfix")
FIX_LINE_KINDS = ("carry", "drop")
PAIR_KINDS = ("try", "probe", "meet")
MANY_KINDS = ("rise", "night", "renew")


def names_of(fixes, is_turned):
    """The tuple of the names of so many fixes, of which the first one needs the second."""
    return ("g", "f") if is_turned else ("f", "g")[:fixes]


def with_at(row, at, value):
    """A tuple with another value at an index."""
    return (*row[:at], value, *row[at + 1:])


class Rules:
    """What standings of a kind with some features tell."""

    def __init__(self, kind, features):
        self.most_lines = kind.lines
        self.homes = tuple([line - 1 for line in kind.days])
        self.tells_open = "open" in features
        self.tells_past = "past" in features
        self.tells_last = "last" in features
        self.tells_live = "live" in features
        self.tells_tries = "tries" in features


class Move:
    """A deed as plain values: indexes of its fix, and of the lines or days that it names and for which it is done."""

    def __init__(self, deed, names):
        self.deed = deed
        self.word = deed.KIND
        self.spots = tuple([names.index(fix) for fix in deed.named() if isinstance(fix, str)])
        self.numbers = tuple([number - 1 for number in deed.named() if isinstance(number, int)])
        stop = deed.stop()
        # The stop of a merge is a fix; it is done for its line all the same.
        self.merged = tuple([stop is None or fix <= stop for fix in names]) if self.word == "merge" else ()
        is_short = stop is not None and self.word != "merge"
        self.done_for = tuple([number - 1 for number in done_numbers(deed)]) if is_short else self.numbers


def all_deeds(names, lines, days, kind=None):
    """The list of all deeds, or of those of one kind, of these fixes and of so many lines and days, in order."""
    kinds = [word for word in Deed.KINDS if kind is None or word == kind]
    return [deed for word in kinds for deed in deeds_of_kind(word, names, lines, days)]


def deeds_of_kind(word, names, lines, days):
    """The list of the deeds of a kind, in order."""
    if word == "cut":
        return [deed_of(word, (), None)]
    if word in FIX_KINDS:
        return [deed_of(word, (fix,), None) for fix in names]
    if word in FIX_LINE_KINDS:
        return [deed_of(word, (fix, line), None) for fix in names for line in range(1, lines + 1)]
    if word in PAIR_KINDS:
        pairs = [(1, 2), (2, 1)] if word == "probe" else [(1, 2)]
        return [deed_of(word, pair, None) for pair in pairs if lines == 2]
    if word == "merge":
        stops = [None, "f"] if len(names) == 2 else [None]
        return [deed_of(word, (line,), stop) for line in range(1, lines + 1) for stop in stops]
    if word in MANY_KINDS:
        rows = RISING[days if word == "renew" else lines]
        return [deed_of(word, row, stop) for row in rows for stop in (None, *row[:-1])]
    many = days if word in ("redo", "shut") else lines
    return [deed_of(word, (number,), None) for number in range(1, many + 1)]


def is_ready(state, move, rules):
    """Whether a deed of things that are there can be done, as far as the table of the deeds tells."""
    word = move.word
    if word in FIX_KINDS:
        return state[1][move.spots[0]] == (word == "unfix")
    if word == "cut":
        return True
    lines = state[2]
    if word in PAIR_KINDS:
        return are_there(lines, cell_of(move))
    if word in ("redo", "renew", "shut"):
        return all([is_day_ready(word, state[4][at], lines[rules.homes[at]]) for at in move.numbers])
    return all([is_line_ready(move, lines[at]) for at in move.numbers])


def is_line_ready(move, line):
    """Whether a deed on lines, but of two, can be done on a line that it names."""
    word = move.word
    if word in FIX_LINE_KINDS:
        return line[OPEN] and line[0][move.spots[0]] == (word == "drop")
    if word in ("merge", "end", "offer"):
        return line[OPEN]
    if word in ("live", "rise"):
        return line[LAST] is not None and not line[FRESH]
    return line[LIVE] is not None


def is_day_ready(word, day, line):
    """Whether a deed on days can be done on a day of a line."""
    return not day[1] and (word == "shut" or line[LIVE] is not None)


def cell_of(move):
    """Which releases a deed of two lines tries: whether the live one of the first line, and that of the second one."""
    if move.word == "probe":
        return (move.numbers[0] == 1, move.numbers[0] == 0)
    return (move.word == "meet", move.word == "meet")


def are_there(lines, cell):
    """Whether the releases of two lines that a cell means are there: the live one, or the last one, of each."""
    return all([line[LIVE if is_live else LAST] is not None for line, is_live in zip(lines, cell)])


def behind(state, move, rules):
    """The state behind a deed that can be done; None if there would be more lines than the standings tell of."""
    is_turned, main, lines, two, days = state
    word = move.word
    if word in FIX_KINDS:
        return (is_turned, with_at(main, move.spots[0], word == "fix"), lines, two, days)
    if word == "cut":
        if len(lines) == rules.most_lines:
            return None
        return (is_turned, main, (*lines, new_line(main)), two, days)
    if word in PAIR_KINDS:
        tried = two_tried(two, cell_of(move), lines) if rules.tells_tries else two
        return (is_turned, main, lines, tried, days)
    if word in ("day", "night", "redo", "renew", "shut"):
        return (is_turned, main, lines, two, days_behind(days, move, lines, rules))
    for at in move.done_for:
        lines = with_at(lines, at, line_behind(lines[at], move, main, rules))
        two = two_behind(two, word, at) if rules.tells_tries else two
    return (is_turned, main, lines, two, days)


def new_line(main):
    """A line that was just cut from main."""
    return (main, True, tuple(["none" for _ in main]), None, None, False)


def line_behind(line, move, main, rules):
    """The line behind a deed on lines that is done for it."""
    has, is_open, past, last, live, fresh = line
    word = move.word
    if word == "offer":
        later = tuple([PAST_WITH[told] if is_in else PAST_WITHOUT[told] for told, is_in in zip(past, has)])
        return (has, is_open, later if rules.tells_past else past, has if rules.tells_last else last, live, False)
    if word in ("live", "rise"):
        return (has, is_open, past, last, last, True) if rules.tells_live else line
    if word == "down":
        return (has, is_open, past, last, None, False)
    if word == "end":
        return (has, not rules.tells_open, past, last, live, fresh)
    if word == "merge":
        has = tuple([old or (new and is_in) for old, new, is_in in zip(has, main, move.merged)])
    else:
        has = with_at(has, move.spots[0], word == "carry")
    return (has, is_open, past, last, live, fresh)


def two_behind(two, word, at):
    """Which releases of two lines were tried, behind a deed on one of them."""
    if word not in ("offer", "live", "rise", "down"):
        return two
    tried, probed, backed, met = two
    if word == "offer":
        return (False, False, backed, met) if at == 0 else (False, probed, False, met)
    if word == "down":
        return (tried, probed, False, False) if at == 0 else (tried, False, backed, False)
    return (tried, probed, tried, probed) if at == 0 else (tried, tried, backed, backed)


def two_tried(two, cell, lines):
    """Which releases of two lines were tried, behind a deed that tries those that a cell means."""
    # Where the last release of a line is its live one, both cells mean it.
    return tuple([
        old or all([line[FRESH] or one == other for line, one, other in zip(lines, told, cell)])
        for old, told in zip(two, CELLS)
    ])


def days_behind(days, move, lines, rules):
    """The days behind a deed that makes days, makes them again, or shuts one."""
    for at in move.done_for:
        if move.word in ("day", "night"):
            # A day that is not the next one of its line is not kept.
            if rules.homes[len(days):len(days) + 1] == (at,):
                days = (*days, (lines[at][LIVE], False))
        elif move.word == "shut":
            days = with_at(days, at, (days[at][0], True))
        else:
            days = with_at(days, at, (lines[rules.homes[at]][LIVE], False))
    return days


def step_behind(state, move, rules):
    """The state behind a deed that can be done, if it is another one of which all new days are kept; otherwise None."""
    found = behind(state, move, rules)
    if found is None or found == state:
        return None
    if move.word in ("day", "night") and len(found[4]) - len(state[4]) < len(move.done_for):
        return None
    return found


def stand_is(word, line, at):
    """Whether a word of places that is no opposite is true of a line, about the fix of an index."""
    has, is_open, past, last, live, fresh = line
    if word == "has":
        return has[at]
    if word == "open":
        return is_open
    if word == "up":
        return live is not None
    if word == "fresh":
        return fresh
    if word == "shipped":
        return past[at] in ("all", "won", "lost")
    if word == "missed":
        return past[at] in ("no", "won", "lost")
    lot = last if word in ("gives", "omits") else live
    return lot is not None and lot[at] == (word in ("gives", "runs"))

"""The texts of standings: states [moves.py] written as words, and read from them."""

from editionlines.kinds import FEATURES, closed, take_kind_numbers
from editionlines.moves import CELLS, NO_TRIES, are_there

PASTS = ("none", "all", "no", "won", "lost")


def words_of_bools(bools):
    """The list of the words for what has or lacks each fix."""
    return ["has" if told else "lacks" for told in bools] or ["-"]


def words_of_lot(bools):
    """The list of the words for a release, which may be None."""
    if bools is None:
        return ["none"]
    return words_of_bools(bools) if bools else ["some"]


def words_of_line(line):
    """The list of the words of a line."""
    has, is_open, past, last, live, fresh = line
    told = ["line", *words_of_bools(has), "open" if is_open else "ended", *list(past or ("-",))]
    told = [*told, "last", *words_of_lot(last), "live", *words_of_lot(live)]
    return [*told, "fresh" if fresh else "stale"]


def text_of(kind, features, state):
    """The text of the standing of a kind with some features that has a state."""
    is_turned, main, lines, two, days = state
    groups = [["kind", *kind.number_words()], ["tells", *list(features or ("-",))]]
    groups.append(["turned" if is_turned else "straight"])
    groups.append(["main", *words_of_bools(main)])
    for line in lines:
        groups.append(words_of_line(line))
    if len(lines) == 2:
        answers = ["yes" if told else "no" for told in two]
        groups.append(["two", *answers])
    for keeps, is_shut in days:
        groups.append(["day", *words_of_bools(keeps), "shut" if is_shut else "open"])
    return " ; ".join([" ".join(group) for group in groups])


def all_features(kind):
    """The list of all features that standings of a kind can have."""
    rows = [()]
    for word in FEATURES:
        rows = [*rows, *[(*row, word) for row in rows]]
    return [row for row in rows if closed(row) == row and (not kind.days or "live" in row)]


def take_features(words, kind):
    """The features of a kind that the next ones of some Words tell."""
    rows = all_features(kind)
    if () in rows and words.is_next("-"):
        words.take()
        return ()
    told = ()
    while True:
        # What can be told next, so that the features can still be closed.
        more = [row[len(told)] for row in rows if len(row) > len(told) and row[:len(told)] == told]
        if more and words.is_next(*more):
            told = (*told, words.take())
        elif told and told in rows:
            return told
        else:
            words.refuse()


def take_bools(words, many):
    """The tuple of so many bools that the next ones of some Words tell."""
    if many == 0:
        words.take("-")
    return tuple([words.take("has", "lacks") == "has" for _ in range(many)])


def take_past(words, many, is_told):
    """The tuple of how the releases stand about so many fixes, which the next ones of some Words tell."""
    if many == 0:
        words.take("-")
    some = PASTS if is_told else ("none",)
    return tuple([words.take(*some) for _ in range(many)])


def take_lot(words, many, can_be):
    """What a release has, told by the next ones of some Words; None if there is none, as it must be if it cannot be."""
    if not can_be or words.is_next("none"):
        words.take("none")
        return None
    if many == 0:
        words.take("some")
        return ()
    return take_bools(words, many)


def take_line(words, kind, features):
    """The line that the next ones of some Words tell, behind its first word."""
    has = take_bools(words, kind.fixes)
    opens = ("open", "ended") if "open" in features else ("open",)
    is_open = words.take(*opens) == "open"
    past = take_past(words, kind.fixes, "past" in features)
    words.take("last")
    last = take_lot(words, kind.fixes, "last" in features)
    words.take("live")
    live = take_lot(words, kind.fixes, "live" in features and last is not None)
    freshness = ("stale",) if live is None else ("fresh", "stale")
    return (has, is_open, past, last, live, words.take(*freshness) == "fresh")


def take_two(words, features, lines):
    """The four bools of two lines that the next ones of some Words tell, behind their first word."""
    found = []
    for cell in CELLS:
        answers = ("yes", "no") if "tries" in features and are_there(lines, cell) else ("no",)
        found.append(words.take(*answers) == "yes")
    return tuple(found)


def take_things(words, kind, features):
    """The lines, two and days that the words that are left tell."""
    lines = ()
    two = NO_TRIES
    days = ()
    while words.is_next():
        words.take(";")
        if words.is_next("line") and len(lines) < kind.lines and not days:
            words.take()
            lines = (*lines, take_line(words, kind, features))
            if len(lines) == 2:
                words.take(";")
                words.take("two")
                two = take_two(words, features, lines)
        elif words.is_next("day") and len(days) < len(kind.days) and kind.days[len(days)] <= len(lines):
            words.take()
            keeps = take_bools(words, kind.fixes)
            days = (*days, (keeps, words.take("open", "shut") == "shut"))
        else:
            words.refuse()
    return (lines, two, days)


def take_standing(words):
    """The kind, the features and the state that the words of a standing tell."""
    words.take("kind")
    kind = take_kind_numbers(words)
    words.take(";")
    words.take("tells")
    features = take_features(words, kind)
    words.take(";")
    turns = ("straight", "turned") if kind.fixes == 2 else ("straight",)
    is_turned = words.take(*turns) == "turned"
    words.take(";")
    words.take("main")
    main = take_bools(words, kind.fixes)
    lines, two, days = take_things(words, kind, features)
    return (kind, features, (is_turned, main, lines, two, days))

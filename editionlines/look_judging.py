"""Whether what is told of a book and a wish is right, looked at without a search."""

from editionlines.gates import Gate
from editionlines.histories import History
from editionlines.judging import Broken, Holds
from editionlines.standings import Standing
from editionlines.tables import MOST_STANDINGS, features_of, is_broken


def is_same_value(one, other):
    """Whether two values are of one kind and equal."""
    return type(one) is type(other) and one == other


def are_things(told, value):
    """Whether any value is a dict of the same letters and things as another one."""
    if not isinstance(value, dict) or len(value) != len(told):
        return False
    return all([letter in value and is_same_value(told[letter], value[letter]) for letter in told])


def are_standings_of(table, kind, features):
    """Whether any value is a tuple of Standings of a Kind with some features."""
    if not isinstance(table, tuple):
        return False
    for standing in table:
        if not isinstance(standing, Standing) or standing.kind != kind or standing.features != features:
            return False
    return True


def is_closed_table(book, kind, features, table):
    """Whether Standings of a Kind with some features have the starts, and all to which deeds lead that a book lets."""
    states = {standing.state: True for standing in table}
    if not all([start.state in states for start in Standing.starts(kind, features)]):
        return False
    gate = Gate(book, kind, features)
    for standing in table:
        if not all([state in states for _, state in gate.let_states(standing)]):
            return False
    return True


def shows_holds(book, wish, table):
    """Whether any value is the table of a right Holds."""
    features = features_of(book, wish)
    if not are_standings_of(table, wish.kind, features) or len(table) > MOST_STANDINGS:
        return False
    if len({standing.key: True for standing in table}) < len(table):
        return False
    if any([is_broken(wish, standing) for standing in table]):
        return False
    return is_closed_table(book, wish.kind, features, table)


def shows_broken(book, wish, history, things):
    """Whether any values are the history and the things of a right Broken."""
    if not isinstance(history, History) or book.lets(history) is not None:
        return False
    for told in wish.breaks(history.ground, history.needs):
        if are_things(told, things):
            return True
    return False


def shows_judged(book, wish, value):
    """Whether any value is a right answer to whether a wish holds under a book."""
    features_of(book, wish)
    if isinstance(value, Holds):
        return shows_holds(book, wish, value.table)
    if isinstance(value, Broken):
        return shows_broken(book, wish, value.history, value.things)
    return False

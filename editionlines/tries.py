"""Tries: which releases are, or may come to be, live beside one another without having been tried."""

from editionlines.deeds import Meet, Probe, Try
from editionlines.grounds import is_among
from editionlines.numbers import Number
from editionlines.ways import live_places, refuse_history


def untried_places(ground, places):
    """The ascending list of the pairs of some ascending places, of unlike lines, that were not tried in a Ground."""
    pairs = [(one, other) for one in places for other in places if one[0] < other[0]]
    return [pair for pair in pairs if not is_among(ground.tried, pair)]


def numbers_of(pairs):
    """The tuple of the pairs of Numbers of some pairs of places."""
    return tuple([(Number(*one), Number(*other)) for one, other in pairs])


def shown_places(ground):
    """The ascending list of the pairs (line, number) of the live and the last releases of all lines of a Ground."""
    found = []
    for at, state in enumerate(ground.lines):
        last = len(state.releases) - 1
        if state.live is not None and state.live < last:
            found.append((at + 1, state.live))
        if last >= 0:
            found.append((at + 1, last))
    return found


def untried(history):
    """The tuple of the pairs of Numbers of live releases of unlike lines that were not tried."""
    refuse_history(history)
    return numbers_of(untried_places(history.ground, live_places(history.ground)))


def may_meet(history):
    """The tuple of the pairs of Numbers of live or last releases of unlike lines that were not tried."""
    refuse_history(history)
    return numbers_of(untried_places(history.ground, shown_places(history.ground)))


def settling_deed(ground, one, other):
    """The deed by which two shown releases with these Numbers are tried; one is of the elder line."""
    own = ground.lines[one.line - 1]
    its = ground.lines[other.line - 1]
    is_last = one.at == len(own.releases) - 1
    if is_last and other.at == len(its.releases) - 1:
        return Try(one.line, other.line)
    if own.live == one.at and its.live == other.at:
        return Meet(one.line, other.line)
    return Probe(one.line, other.line) if is_last else Probe(other.line, one.line)


def settling(history):
    """A generator of one deed for each pair of may_meet, by which it is tried, in this order."""
    for one, other in may_meet(history):
        yield settling_deed(history.ground, one, other)

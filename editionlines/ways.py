"""Ways from releases to later ones, and what is lost on them."""

from editionlines.errors import BadHistory, BadWay
from editionlines.histories import History
from editionlines.numbers import Number

RULES = ("any", "last", "live")


def refuse_history(history):
    """Raises BadHistory for any value that is no History."""
    if not isinstance(history, History):
        raise BadHistory("history")


def all_places(history):
    """The ascending list of the pairs (line, number) of all releases of a history."""
    lines = history.ground.lines
    return [(at + 1, number) for at, line in enumerate(lines) for number in range(len(line.releases))]


def lot_at(history, place):
    """The Lot of the release with a pair (line, number)."""
    return history.ground.lines[place[0] - 1].releases[place[1]]


def live_places(ground):
    """The ascending list of the pairs (line, number) of the releases that are live in a Ground."""
    return [(at + 1, line.live) for at, line in enumerate(ground.lines) if line.live is not None]


def last_ways(history):
    """A dict from the pairs of places of the ways of the rule last to True."""
    offered = {(release.number.line, release.number.at): at for at, release in enumerate(history.releases)}
    found = {}
    for goal in offered:
        # The goal is the last one of its line until the release behind it is offered.
        end = offered.get((goal[0], goal[1] + 1), len(offered))
        for start in offered:
            if start < goal and offered[start] < end:
                found[start, goal] = True
    return found


def live_ways(history):
    """A dict from the pairs of places of the ways of the rule live to True."""
    found = {}
    ahead = []
    for ground in history.moments:
        now = live_places(ground)
        for start in now:
            for goal in now:
                if start[0] < goal[0]:
                    found[start, goal] = True
        for start in ahead:
            for goal in now:
                if start[0] == goal[0] and start < goal:
                    found[start, goal] = True
        ahead = now
    return found


def way_places(history, rule):
    """The ascending list of the pairs of places of all ways of a rule."""
    places = all_places(history)
    pairs = [(start, goal) for start in places for goal in places if start < goal]
    if rule == "any":
        return pairs
    found = last_ways(history) if rule == "last" else live_ways(history)
    return [pair for pair in pairs if pair in found]


def ways(history, rule):
    """A generator of the pairs of Numbers of all ways of a rule, ascending."""
    refuse_history(history)
    if rule not in RULES:
        raise BadWay(rule)
    for start, goal in way_places(history, rule):
        yield Number(*start), Number(*goal)


def losses(history, rule):
    """A generator of the triples of the two Numbers of a way and a fix that it loses, ascending."""
    for start, goal in ways(history, rule):
        for fix in history.release(start).lot - history.release(goal).lot:
            yield start, goal, fix


def running(history):
    """A dict from the lines that have a live release to its Number, ascending."""
    refuse_history(history)
    return {place[0]: Number(*place) for place in live_places(history.ground)}


def next_losses(history):
    """The ascending tuple of the triples (number, line, fix): what a live release has and an open line lacks.

    The line is that of the release or a newer one, so that its next release would lose the fix.
    """
    refuse_history(history)
    lines = history.ground.lines
    found = []
    for place in live_places(history.ground):
        for at in range(place[0] - 1, len(lines)):
            if lines[at].is_open:
                for fix in lot_at(history, place) - lines[at].lot:
                    found.append((Number(*place), at + 1, fix))
    return tuple(found)


def bared(history):
    """The ascending tuple of the triples (number, other, fix): what a live release has and a newer line's lacks."""
    refuse_history(history)
    live = live_places(history.ground)
    found = []
    for place in live:
        for other in live:
            if place[0] < other[0]:
                for fix in lot_at(history, place) - lot_at(history, other):
                    found.append((Number(*place), Number(*other), fix))
    return tuple(found)

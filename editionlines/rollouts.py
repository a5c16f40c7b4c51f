"""Rollouts: how last releases go live one after the other, so that no two that were not tried meet."""

from editionlines.checks import is_within
from editionlines.deeds import Down, Live
from editionlines.errors import NoLine
from editionlines.grounds import is_among
from editionlines.papers import Denial, Paper, kept_value
from editionlines.tries import numbers_of, untried_places
from editionlines.ways import live_places, refuse_history

# The words of a stand, ascending.
STAND_WORDS = ("new", "off", "old")


class Rollout(Paper):
    """The deeds that lead from the first stand to the goal."""

    def __init__(self, deeds):
        self.deeds = kept_value(deeds)

    def held(self):
        """The tuple of the values of all attributes."""
        return (self.deeds,)


class Stuck(Denial):
    """Stands, the first one among them and the goal not, from which no step leads to another stand."""

    def __init__(self, stands):
        self.stands = kept_value(stands)

    def held(self):
        """The tuple of the values of all attributes."""
        return (self.stands,)


def is_mover(state):
    """Whether a line has a last release that is not its live one."""
    return len(state.releases) > 0 and state.live != len(state.releases) - 1


def movers_of(ground):
    """The ascending list of the movers of a Ground."""
    return [at + 1 for at, state in enumerate(ground.lines) if is_mover(state)]


class Rolling:
    """The steps between the stands of a history; stays are the lines that are not taken down."""

    def __init__(self, history, stays):
        refuse_history(history)
        ground = history.ground
        for line in stays:
            if not is_within(line, 1, ground.line_count):
                raise NoLine(line)
        self.stays = stays
        self.tried = ground.tried
        self.movers = tuple(movers_of(ground))
        self.others = tuple([place for place in live_places(ground) if place[0] not in self.movers])
        states = [ground.lines[line - 1] for line in self.movers]
        self.news = tuple([(line, len(state.releases) - 1) for line, state in zip(self.movers, states)])
        self.olds = tuple([(line, state.live) for line, state in zip(self.movers, states)])
        self.first = tuple(["off" if state.live is None else "old" for state in states])
        self.goal = tuple(["new" for _ in states])

    def live_beside(self, stand, at):
        """The list of the places that are live at a stand, but for that of the mover of an index."""
        found = list(self.others)
        for other, word in enumerate(stand):
            if other != at and word != "off":
                found.append(self.news[other] if word == "new" else self.olds[other])
        return found

    def can_go_live(self, stand, at):
        """Whether the last release of the mover of an index was tried with all that are live then."""
        own = self.news[at]
        pairs = [(own, place) if own[0] < place[0] else (place, own) for place in self.live_beside(stand, at)]
        return all([is_among(self.tried, pair) for pair in pairs])

    def steps_at(self, stand):
        """The list of the pairs of a deed and the stand to which it leads, of all steps from a stand."""
        found = []
        for at, line in enumerate(self.movers):
            if stand[at] != "new" and self.can_go_live(stand, at):
                found.append((Live(line), (*stand[:at], "new", *stand[at + 1:])))
            if stand[at] == "old" and line not in self.stays:
                found.append((Down(line), (*stand[:at], "off", *stand[at + 1:])))
        return found

    def ahead_of(self):
        """A dict from all stands that are reached to a pair: the stand ahead on a shortest way, and the deed."""
        found = {self.first: None}
        met = [self.first]
        at = 0
        while at < len(met):
            stand = met[at]
            later = [(behind, deed) for deed, behind in self.steps_at(stand) if behind not in found]
            for behind, deed in later:
                found[behind] = (stand, deed)
            met.extend([behind for behind, _ in later])
            at += 1
        return found

    def all_stands(self):
        """The ascending list of all rows of words, one for each mover."""
        rows = [()]
        for _ in self.movers:
            rows = [(*row, word) for row in rows for word in STAND_WORDS]
        return rows


def rollout(history, *kept):
    """The Rollout of the fewest deeds from the first stand to the goal; otherwise the Stuck."""
    rolling = Rolling(history, kept)
    ahead = rolling.ahead_of()
    if rolling.goal not in ahead:
        return Stuck(tuple([stand for stand in rolling.all_stands() if stand in ahead]))
    deeds = []
    stand = rolling.goal
    while ahead[stand] is not None:
        stand, deed = ahead[stand]
        deeds.append(deed)
    return Rollout(tuple(deeds[::-1]))


def places_behind(ground, movers, line):
    """The ascending list of the places that are live behind a rise of some lines that is stopped behind one of them."""
    found = []
    for at, state in enumerate(ground.lines):
        if at + 1 in movers and at + 1 <= line:
            found.append((at + 1, len(state.releases) - 1))
        elif state.live is not None:
            found.append((at + 1, state.live))
    return found


def rise_stops(history):
    """A generator of the pairs (line, found) for each mover: what a rise of all movers leaves that stops behind it.

    found is the tuple of the pairs of Numbers of releases that are live then and were not tried.
    """
    refuse_history(history)
    ground = history.ground
    movers = movers_of(ground)
    for line in movers:
        yield line, numbers_of(untried_places(ground, places_behind(ground, movers, line)))
